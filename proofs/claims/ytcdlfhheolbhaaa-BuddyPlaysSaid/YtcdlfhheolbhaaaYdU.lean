/-
  Boxes beside a yard; the yard's insert.
-/
import Derived.Test.YtcdlfhheolbhaaaYdT
import Derived.Test.YtcdlfhheolbhaaaYdB
import Derived.Deep.LoopGhost
import Derived.Deep.RegionHeld3
namespace Go.Proofs.Ytcdlfhheolbhaaa
open Go Go.RowKit Go.Lib
set_option linter.unusedVariables false

theorem YI.box {w : World} {y : Nat} {own : Nat → Prop} {n : Nat} {op : Opn} {tk : List Bk} {fl : List Nat} (h : YI w y own n op tk fl) (o : Obj) : YI (w.alloc o) y (fun k => own k ∧ k ≠ w.heap.size) n op tk fl := by
  have hk : Below w.heap.size w (w.alloc o) := (Below.refl _ _).alloc (Nat.le_refl _) _
  have h1 : YI w y (fun k => (own k ∧ k ≠ w.heap.size) ∨ w.heap.size ≤ k) n op tk fl := h.owner (fun k hk ho => .inl ⟨ho, by omega⟩) (fun k hk => .inr hk)
  obtain ⟨cs, q1, q2, q3⟩ := h
  have q := q1.kept hk
  refine ⟨cs, ⟨q.blk, q.sz, ⟨q1.bown, by have := q1.blk.lt; omega⟩, fun k hk => ?_, q.row, fun j v g j1 j2 hv hg => ?_, q.apart⟩, q2, q3⟩
  · have : w.heap.size + 1 ≤ k := by simpa using hk
    exact ⟨q1.new k (by omega), by omega⟩
  · obtain ⟨u, m, hu, ho⟩ := q1.row j j1 j2
    rw [hv] at hu; cases hu
    have h3 := (ho.lt g hg).2
    exact ⟨⟨(q1.ob j v g j1 j2 hv hg).1, by omega⟩, (q1.ob j v g j1 j2 hv hg).2⟩
theorem YI.aside {w : World} {y : Nat} {own : Nat → Prop} {n : Nat} {op : Opn} {tk : List Bk} {fl : List Nat} (h : YI w y own n op tk fl) {g : Nat} (hg : ¬ own g) (o : Nat) (v : Value) : YI (w.setCell ⟨g, o, none⟩ v) y own n op tk fl := by
  obtain ⟨cs, q1, q2, q3⟩ := h
  refine ⟨cs, ⟨q1.blk.other (fun (e : y = g) => hg (e ▸ q1.bown)) v, q1.sz, q1.bown, fun k hk => q1.new k (by simpa using hk), fun j j1 j2 => ?_, q1.ob, q1.apart⟩, q2, q3⟩
  obtain ⟨u, m, hu, ho⟩ := q1.row j j1 j2
  exact ⟨u, m, hu, ownsRow_setCell_other ho (fun e => hg (q1.ob j u g j1 j2 hu e).1) v⟩
theorem YI.wider {w : World} {y : Nat} {own own' : Nat → Prop} {n : Nat} {op : Opn} {tk : List Bk} {fl : List Nat} (h : YI w y own n op tk fl) (h1 : ∀ k, own k → own' k) : YI w y own' n op tk fl := by
  obtain ⟨cs, q1, q2, q3⟩ := h
  exact ⟨cs, ⟨q1.blk, q1.sz, h1 _ q1.bown, fun k hk => h1 k (q1.new k hk), q1.row, fun j v g j1 j2 hv hg => ⟨h1 _ (q1.ob j v g j1 j2 hv hg).1, (q1.ob j v g j1 j2 hv hg).2⟩, q1.apart⟩, q2, q3⟩
theorem YI.new {w : World} {y : Nat} {own : Nat → Prop} {n : Nat} {op : Opn} {tk : List Bk} {fl : List Nat} (h : YI w y own n op tk fl) : ∀ k, w.heap.size ≤ k → own k := by
  obtain ⟨cs, q1, q2, q3⟩ := h; exact q1.new
theorem YI.yown {w : World} {y : Nat} {own : Nat → Prop} {n : Nat} {op : Opn} {tk : List Bk} {fl : List Nat} (h : YI w y own n op tk fl) : own y := by
  obtain ⟨cs, q1, q2, q3⟩ := h; exact q1.bown
theorem Blk.chg {w w' : World} {b : Nat} {cs : Array Value} {t : TypeId} {own : Nat → Prop} (h : Blk w b cs t) (hc : Chg own w w') (hb : ¬ own b) : Blk w' b cs t := by
  unfold Blk at *; rw [hc.block b (lt_of_block h) hb]; exact h
theorem Chg.weak {own own' : Nat → Prop} {w w' : World} (h : Chg own w w') (ho : ∀ k, own k → own' k) : Chg own' w w' := h.wider fun k _ => ho k

theorem quiet_dr {P : Program} {f : FuncId} {args : Array Value} {w : World} {n m : Nat} {v : Value} (h : Calls P f args (w.drewN (n + m)) fun e w' => e = .returned v ∧ ∃ q, w' = (w.drewN (n + m)).drewN q) :
    Calls P f args (w.drewN (n + m)) fun e w'' => e = .returned v ∧ ∃ k, w'' = w.drewN (n + k) := h.mono fun _ _ ⟨he, q, hm⟩ => ⟨he, m + q, by rw [hm, World.drewN_drewN, Nat.add_assoc]⟩
/-- What the yard's insert wants, and what it leaves. -/
structure InsAt (n : Nat) (op : Opn) (o s : Nat) : Prop where
  ho : o ≤ n
  hs : s % 2 ^ o = 0
  hb : s + 2 ^ o ≤ 2 ^ n
  hd : ∀ x, inB o s x → op x = false
theorem InsAt.up {n : Nat} {op : Opn} {o s : Nat} (h : InsAt n op o s) (ho : o < n) (hF : isF n op o (bud o s)) : InsAt n (less op o (bud o s)) (o + 1) (Go.Proofs.Ytcdlfhheolbhaaa.up o s) ∧ more (less op o (bud o s)) (o + 1) (Go.Proofs.Ytcdlfhheolbhaaa.up o s) = more op o s := by
  refine ⟨⟨ho, up_mod o s, up_le h.hs ho h.hb, fun x hx => ?_⟩, more_up h.hs hF.2.2.2.1⟩
  rcases (up_split h.hs x).1 hx with hx | hx
  · by_cases hi : inB o (bud o s) x
    · exact less_in hi
    · rw [less_out hi]; exact h.hd x hx
  · exact less_in hx
theorem InsAt.not_bud {n : Nat} {op : Opn} {o s : Nat} (h : InsAt n op o s) (hF : ¬ isF n op o (bud o s)) : o < n → ¬ allB op o (bud o s) := fun ho ha => hF (bud_free ho h.hs h.hb h.hd ha)

/-- The last step: into the row of the block's order. -/
theorem insRow_any (y : Nat) (own : Nat → Prop) (n : Nat) (op : Opn) (tk : List Bk) (fl : List Nat) (o s : Nat) (w : World) (hI : InsAt n op o s) (hnb : o < n → ¬ allB op o (bud o s)) (hY : YI w y own n op tk fl) (v : Value) (hv : w.cell? ⟨y, 1 + o, none⟩ = some v)
    (gB : Nat) (cB : Array Value) (hB : Blk w gB cB 45) (hgB : ¬ own gB) :
    Calls Try.prog 61 #[v, .int .i64 (posN (frL n op o) s : Nat), .slice (some ⟨w.heap.size, 0, none⟩) 1 1] (w.alloc (.cells #[.int .i64 (s : Int)] 3))
      fun e w'' => ∃ va vn vc, e = .returned (.slice va vn vc) ∧ (w''.cell? ⟨y, 1 + o, none⟩ = some v ∧ w''.frozen? ⟨y, 1 + o, none⟩ = false ∧ Hid (Blk w'' gB cB 45)) ∧
        Hid (YI (w''.setCell ⟨y, 1 + o, none⟩ (.slice va vn vc)) y own n (more op o s) tk fl ∧ Chg own w (w''.setCell ⟨y, 1 + o, none⟩ (.slice va vn vc))) := by
  obtain ⟨ho, hs, hb, hd⟩ := hI
  have hn := hY.n10
  have hk : Below w.heap.size w (w.alloc (.cells #[.int .i64 (s : Int)] 3)) := (Below.refl _ _).alloc (Nat.le_refl _) _
  obtain ⟨v0, hv0, hr⟩ := hY.free (show o ≤ 10 by omega)
  rw [hv] at hv0; cases hv0
  obtain ⟨p1, p2, p3, p4⟩ := pos_facts (frL_inc n op o) s
  have hnot : ∀ q (hq : q < (frL n op o).length), (frL n op o)[q] ≠ s := fun q hq e => by
    have hF : isF n op o s := frL_mem.1 (e ▸ List.getElem_mem hq)
    have := hd s (inB_self _ _)
    rw [hF.2.2.2.1 s (inB_self _ _)] at this; cases this
  have hins := frL_ins ho hs hb hd hnb p1 p2 (fun q hq hle => by have := p3 q hq hle; have := hnot q hq; omega)
  refine (insN_any v (frL n op o) (posN (frL n op o) s) s w.heap.size 1 _ p1 (frL_len hn op o) (own_older hr hk) (Blk.new w _ _) (fun e => by have := (hr.lt _ e.symm).2; omega)).mono ?_
  rintro e w2 ⟨v', rfl, d1, d2, d3⟩
  rw [hins] at d1
  have hYq := hY.kept hk
  obtain ⟨e1, e2, cs, e3, e4⟩ := hYq.putFree (o := o) (by omega) (v := v) (v' := v') (cell_next hk hv) d2 d3 d1 (fun o' hne => frL_more ho hs hb hd hnb hne)
  obtain ⟨va, vc, rfl⟩ := own_slice d1
  have hgv : ∀ g, v.ownBlock = some g → own g := fun g hg => by
    obtain ⟨cs, q1, q2, q3⟩ := hY
    have hv' := hv
    rw [q1.blk.cell] at hv'
    exact (q1.ob _ v g (by omega) (by omega) hv' hg).1
  exact ⟨va, _, vc, rfl, ⟨(e3.at e4).1, (e3.at e4).2, (hB.kept hk).grown d2 (fun e => hgB (hgv gB e))⟩, e1, (Chg.of_below hk).trans e2⟩
/-- The same as a walk wants it: the search, and the insertion. -/
theorem insTail (y : Nat) (own : Nat → Prop) (n : Nat) (op : Opn) (tk : List Bk) (fl : List Nat) (o s : Nat) (W : World) (hI : InsAt n op o s) (hnb : o < n → ¬ allB op o (bud o s)) (hY : YI W y own n op tk fl)
    (gB : Nat) (cB : Array Value) (hB : Blk W gB cB 45) (hgB : ¬ own gB) :
    ∃ (v : Value) (p : Nat) (f : Bool), W.cell? ⟨y, 1 + o, none⟩ = some v ∧
      (∀ w', (∃ q, w' = W.drewN q) → Calls Try.prog 60 #[v, .int .i64 (s : Int)] w' fun e w'' => e = .returned (.tuple #[.int .i64 (p : Nat), .bool f]) ∧ ∃ q, w'' = w'.drewN q) ∧
      (∀ w', (∃ q, w' = (W.drewN q).alloc (.cells #[.int .i64 (s : Int)] 3)) → Calls Try.prog 61 #[v, .int .i64 (p : Nat), .slice (some ⟨W.heap.size, 0, none⟩) 1 1] w'
        fun e w'' => ∃ va vn vc, e = .returned (.slice va vn vc) ∧ (w''.cell? ⟨y, 1 + o, none⟩ = some v ∧ w''.frozen? ⟨y, 1 + o, none⟩ = false ∧ Hid (Blk w'' gB cB 45)) ∧
          Hid (YI (w''.setCell ⟨y, 1 + o, none⟩ (.slice va vn vc)) y own n (more op o s) tk fl ∧ Chg own W (w''.setCell ⟨y, 1 + o, none⟩ (.slice va vn vc)))) := by
  have hn := hY.n10
  obtain ⟨v, hv, hr⟩ := hY.free (show o ≤ 10 by have := hI.ho; omega)
  refine ⟨v, posN (frL n op o) s, hasN (frL n op o) s, hv, ?_, ?_⟩
  · rintro w' ⟨q, rfl⟩
    exact bsN_any v _ s _ (frL_len hn op o) (frL_inc n op o) ((nrow_of_own hr).kept (below_drewN (Below.refl _ _) _))
  · rintro w' ⟨q, rfl⟩
    have hk : Below W.heap.size W (W.drewN q) := below_drewN (Below.refl _ _) _
    refine (insRow_any y own n op tk fl o s (W.drewN q) hI hnb (hY.kept hk) v (cell_next hk hv) gB cB (hB.kept hk) hgB).mono ?_
    rintro e w2 ⟨va, vn, vc, rfl, h1, h2⟩
    exact ⟨va, vn, vc, rfl, h1, h2.out.1, (Chg.of_below hk).trans h2.out.2⟩
theorem insFin {y n : Nat} {own own' : Nat → Prop} {op1 op2 : Opn} {tk : List Bk} {fl : List Nat} {w W w2 : World} (ho : ∀ k, own' k → own k) (he : op1 = op2) (hc : Chg own w W) (h : YI w2 y own' n op1 tk fl ∧ Chg own' W w2) :
    YI w2 y own n op2 tk fl ∧ Chg own w w2 := by
  subst he
  exact ⟨h.1.wider ho, hc.trans (h.2.weak ho)⟩
set_option maxHeartbeats 4000000 in
theorem insert_any (y : Nat) (own : Nat → Prop) (n : Nat) (op : Opn) (tk : List Bk) (fl : List Nat) (o s : Nat) (w : World) (hI : InsAt n op o s) (hY : YI w y own n op tk fl) :
    Calls Try.prog 64 #[.pointer (some ⟨y, 0, none⟩), bkV (s, o)] w
      fun e w' => e = .returned (.tuple #[]) ∧ YI w' y own n (more op o s) tk fl ∧ Chg own w w' := by
  have hn := hY.n10
  obtain ⟨W0, hW0⟩ : ∃ W0, W0 = w := ⟨_, rfl⟩
  have HY0 := Lib.hid hY
  have HI0 := Lib.hid hI
  obtain ⟨N, hN⟩ : ∃ N : Int, N = (n : Int) := ⟨_, rfl⟩
  clear hY hI
  go_enter Try.func64, Try.ntmps64
  go_wp2_with fail
  obtain ⟨gB, hgB⟩ : ∃ gB, gB = w.heap.size := ⟨_, rfl⟩
  obtain ⟨own', hown'⟩ : ∃ own' : Nat → Prop, own' = fun k => own k ∧ k ≠ gB := ⟨_, rfl⟩
  have HOW := Lib.hid hown'
  rw [← hgB]
  have HGB := Lib.hid hgB
  clear hgB hown'
  go_loopg [] (n - o) (fun k wr => ∃ (o' s' : Nat) (op' : Opn), k + o' = n ∧ Hid (InsAt n op' o' s' ∧ more op' o' s' = more op o s) ∧ Hid (YI wr y own' n op' tk fl) ∧ Blk wr gB #[.int .i64 (s' : Int), .int .i64 (o' : Int)] 45 ∧ Hid (Chg own w wr))
  case atStart =>
    refine ⟨o, s, op, by have := HI0.out.ho; omega, ⟨HI0.out, rfl⟩, ?_, ?_, Chg.of_below ((Below.refl _ _).alloc (Nat.le_refl _) _)⟩
    · rw [HOW.out, HGB.out]; exact HY0.out.box _
    · rw [HGB.out]; exact Blk.new _ _ _
  case round =>
    obtain ⟨o', s', op', hk, HI, HY, HBB, HC⟩ := hrel
    have hy0 := HY.out.ord
    have hb0 := HBB.cell 0
    have hb1 := HBB.cell 1
    simp at hb0 hb1
    by_cases hlt : (o' : Int) < (n : Int)
    · have hd : decide ((o' : Int) < (n : Int)) = true := decide_eq_true hlt
      obtain ⟨W1, hW1⟩ : ∃ W1, W1 = wr.drew := ⟨_, rfl⟩
      have hk1 : Below wr.heap.size wr W1 := by rw [hW1]; exact (Below.refl _ _).drew
      have HBB1 := HBB.kept hk1
      have HY1 := Lib.hid (HY.out.kept hk1)
      have HC1 : Hid (Chg own w W1) := HC.out.trans (Chg.of_below hk1)
      have hs' := HI.out.1.hs
      have hb' := HI.out.1.hb
      have hp := pow_1024 hn
      have hp2 := two_pos o'
      have hx := i64_xor_bud (o := o') (s := s') (by omega) (by omega) hs'
      have SZ : Hid (∀ w, Calls Try.prog 65 #[.int .i64 (o' : Int)] w fun e w' => e = .returned (.int .i64 ((2 ^ o' : Nat) : Int)) ∧ w' = w) := fun w => size_any o' (by omega) w
      obtain ⟨P2, hP2⟩ : ∃ P2 : Int, P2 = ((2 ^ o' : Nat) : Int) := ⟨_, rfl⟩
      obtain ⟨B, hB⟩ : ∃ B, B = bud o' s' := ⟨_, rfl⟩
      rw [← hP2] at hx SZ
      rw [← hB] at hx
      have hb2 := HBB1.cell 0
      have hb3 := HBB1.cell 1
      simp at hb2 hb3
      have hgl : gB ≠ W1.heap.size := Nat.ne_of_lt HBB1.lt
      have hal2 : ∀ C t, (W1.alloc (.cells C t)).cell? ⟨gB, 0, none⟩ = some (.int .i64 (s' : Int)) := fun C t => cell_next ((Below.refl _ _).alloc (Nat.le_refl _) _) hb2
      have hal3 : ∀ C t, (W1.alloc (.cells C t)).cell? ⟨gB, 1, none⟩ = some (.int .i64 (o' : Int)) := fun C t => cell_next ((Below.refl _ _).alloc (Nat.le_refl _) _) hb3
      have HBD := Lib.hid hB
      have hBm : B % 2 ^ o' = 0 := by rw [hB]; exact bud_mod hs'
      obtain ⟨own2, hown2⟩ : ∃ own2 : Nat → Prop, own2 = fun k => own' k ∧ k ≠ W1.heap.size := ⟨_, rfl⟩
      have hYb := (HY1.out.box (.cells #[.int .i64 (B : Int), .int .i64 (o' : Int)] 45)).kept ((Below.refl _ _).drew)
      have RM := Lib.hid (remove_any y (fun k => own' k ∧ k ≠ W1.heap.size) n op' tk fl o' B (by omega) _ hYb)
      have HBB2 := Lib.hid ((HBB1.old (.cells #[.int .i64 (B : Int), .int .i64 (o' : Int)] 45)).drew)
      have HBH : Hid (Blk (W1.alloc (.cells #[.int .i64 (B : Int), .int .i64 (o' : Int)] 45)).drew W1.heap.size #[.int .i64 (B : Int), .int .i64 (o' : Int)] 45) := (Blk.new _ _ _).drew
      have hgo : ¬ own' gB := fun h => by rw [HOW.out] at h; exact h.2 rfl
      clear hYb hown2 hP2 hp2 hp hs' hb' hk1 hB
      go_wp2_with fail
      go_region
      rw [← hW1]
      clear hW1
      go_wp2_with fail
      go_region_held3 (fun w' => w'.cell? ⟨gB, 0, none⟩ = some (.int .i64 (s' : Int)) ∧ w'.cell? ⟨gB, 1, none⟩ = some (.int .i64 (o' : Int)))
        (first
          | exact ⟨hb2, hb3⟩
          | exact ⟨hal2 _ _, hal3 _ _⟩
          | exact ⟨by assumption, by assumption⟩
          | exact ⟨(World.cell?_setCell_far _ _ _ _ hgl.symm).trans (hal2 _ _), (World.cell?_setCell_far _ _ _ _ hgl.symm).trans (hal3 _ _)⟩
          | exact ⟨(World.cell?_setCell_far _ _ _ _ hgl.symm).trans ((World.cell?_setCell_far _ _ _ _ hgl.symm).trans (hal2 _ _)), (World.cell?_setCell_far _ _ _ _ hgl.symm).trans ((World.cell?_setCell_far _ _ _ _ hgl.symm).trans (hal3 _ _))⟩)
        (first
          | (go_at_call 65; ((with_reducible refine (SZ.out _).mono ?_); rintro e w2 ⟨rfl, hw⟩; subst hw)))
      all_goals
        go_wp2_with fail
        refine (RM.out).mono ?_; rintro e w3 ⟨r, op2, rfl, hcase, hY3, hC3⟩
        have hG3 := HBB2.out.chg hC3 (fun h => hgo h.1)
        have hH3 := HBH.out.chg hC3 (fun h => h.2 rfl)
        have hg0 := hG3.cell 0
        have hg1 := hG3.cell 1
        have hh0 := hH3.cell 0
        have hg3 := hG3.free
        simp at hg0 hg1 hh0
        have HY3 := Lib.hid hY3
        have HC3 := Lib.hid hC3
        have HG3 := Lib.hid hG3
        clear hY3 hC3 hG3 hH3
        rcases hcase with ⟨rfl, hF, rfl⟩ | ⟨rfl, hF, rfl⟩
        · go_wp2_with fail
          go_roundg (gk - 1)
          case measure => omega
          case rel =>
            have hF' : isF n op' o' (bud o' s') := by rw [← HBD.out]; exact hF
            obtain ⟨u1, u2⟩ := HI.out.1.up (by omega) hF'
            have hmin : min (s' : Int) (B : Int) = ((up o' s' : Nat) : Int) := by
              have := min_up HI.out.1.hs
              rw [← HBD.out] at this; omega
            refine ⟨o' + 1, up o' s', less op' o' B, by omega, ⟨by rw [HBD.out]; exact u1, by rw [HBD.out, u2]; exact HI.out.2⟩, ?_, ?_, ?_⟩
            · exact ((HY3.out.wider fun k hk => hk.1).aside hgo _ _).aside hgo _ _
            · have := (HG3.out.set 0 (.int .i64 (min (s' : Int) (B : Int)))).set 1 (.int .i64 ((o' : Int) + 1))
              simpa [hmin] using this
            · have hgw : own gB := by rw [HGB.out]; exact HY0.out.new _ (Nat.le_refl _)
              exact (((HC1.out.trans (Chg.of_below (((Below.refl _ _).alloc (Nat.le_refl _) _).drew))).trans (HC3.out.weak fun k hk => by have := hk.1; rw [HOW.out] at this; exact this.1)).trans (Chg.setCell _ _ hgw)).trans (Chg.setCell _ _ hgw)
        · have hnb := HI.out.1.not_bud (by rw [← HBD.out]; exact hF)
          obtain ⟨v, p, f, hv, BS, IN⟩ := insTail y _ n op2 tk fl o' s' w3 HI.out.1 hnb HY3.out gB _ HG3.out (fun h => hgo h.1)
          have hBS := Lib.hid BS
          have hIN := Lib.hid IN
          have hoi : (o' : Int) < 11 := by omega
          have hoz : (0 : Int) ≤ (o' : Int) := by omega
          have hk3 : Below W1.heap.size W1 (W1.alloc (.cells #[.int .i64 (B : Int), .int .i64 (o' : Int)] 45)).drew := ((Below.refl _ _).alloc (Nat.le_refl _) _).drew
          have HCC : Hid (Chg own w w3) := (HC1.out.trans (Chg.of_below hk3)).trans (HC3.out.weak fun k hk => by have := hk.1; rw [HOW.out] at this; exact this.1)
          have hyg : y ≠ gB := fun e => by have h := HY.out.yown; rw [HOW.out, e] at h; exact h.2 rfl
          have hbl1 : ∀ q C t, ((w3.drewN q).alloc (.cells C t)).cell? ⟨y, 1 + o', none⟩ = some v := fun q C t => cell_next (w2 := (w3.drewN q).alloc (.cells C t)) (below_drewN (Below.refl _ _) q |>.alloc (Nat.le_refl _) _) hv
          have hbl2 : ∀ q C t, ((w3.drewN q).alloc (.cells C t)).cell? ⟨gB, 0, none⟩ = some (.int .i64 (s' : Int)) := fun q C t => cell_next (w2 := (w3.drewN q).alloc (.cells C t)) (below_drewN (Below.refl _ _) q |>.alloc (Nat.le_refl _) _) hg0
          have hbl3 : ∀ q C t, ((w3.drewN q).alloc (.cells C t)).cell? ⟨gB, 1, none⟩ = some (.int .i64 (o' : Int)) := fun q C t => cell_next (w2 := (w3.drewN q).alloc (.cells C t)) (below_drewN (Below.refl _ _) q |>.alloc (Nat.le_refl _) _) hg1
          clear BS IN hk3 hb2 hb3 hal2 hal3 hb0 hb1 hy0 hh0 hx
          go_wp2_with fail
          go_quiet (first | (go_at_call 60; exact Calls.quiet_of (hBS.out _ ⟨_, rfl⟩)))
          go_wp2_with fail
          refine wp_region_held_drew (S := (fun w' => w'.cell? ⟨gB, 0, none⟩ = some (.int .i64 (s' : Int)) ∧ w'.cell? ⟨gB, 1, none⟩ = some (.int .i64 (o' : Int)))) (by kernel_rfl) (by
            first
              | exact ⟨hg0, hg1⟩
              | exact ⟨hbl2 _ _ _, hbl3 _ _ _⟩
              | exact ⟨by assumption, by assumption⟩
              | exact ⟨(World.cell?_setCell_far _ _ _ _ hyg).trans (by assumption), (World.cell?_setCell_far _ _ _ _ hyg).trans (by assumption)⟩
            ) (fun hHeld => ?_)
          refine wpAnyH_take (i := 0) (oi := { dst := some 49, op := Op.move (Operand.tmp 0), type := 25, pos := "blocks.go:64", after := #[], guard := none }) (v := ?_) rfl (by kernel_rfl) (by kernel_rfl) (by kernel_rfl) (fun _ _ _ h => h) (Or.inl ⟨by kernel_rfl, ?_⟩) (by assumption) ?_
          rotate_left
          · (intro w hSw; (try dsimp only at hSw); go_simp; try with_reducible rfl)
          try simp only [Act.put, List.setIfInBounds_toArray, List.set_cons_zero, List.set_cons_succ]
          refine wpAnyH_take (i := 1) (oi := { dst := some 50, op := Op.fieldAddr 45 (Operand.tmp 3) 1, type := 0, pos := "blocks.go:64", after := #[], guard := none }) (v := ?_) rfl (by kernel_rfl) (by kernel_rfl) (by kernel_rfl) (fun _ _ _ h => h) (Or.inl ⟨by kernel_rfl, ?_⟩) (by assumption) ?_
          rotate_left
          · (intro w hSw; (try dsimp only at hSw); go_simp; try with_reducible rfl)
          try simp only [Act.put, List.setIfInBounds_toArray, List.set_cons_zero, List.set_cons_succ]
          refine wpAnyH_take (i := 2) (oi := { dst := some 51, op := Op.load 3 (Operand.tmp 50), type := 3, pos := "blocks.go:64", after := #[{ on := 1, ground := Ground.data }], guard := none }) (v := ?_) rfl (by kernel_rfl) (by kernel_rfl) (by kernel_rfl) (fun _ _ _ h => h) (Or.inl ⟨by kernel_rfl, ?_⟩) (by assumption) ?_
          rotate_left
          · (intro w hSw; (try dsimp only at hSw); go_simp; try with_reducible rfl)
          try simp only [Act.put, List.setIfInBounds_toArray, List.set_cons_zero, List.set_cons_succ]
          refine wpAnyH_take (i := 3) (oi := { dst := some 52, op := Op.move (Operand.tmp 0), type := 25, pos := "blocks.go:64", after := #[], guard := none }) (v := ?_) rfl (by kernel_rfl) (by kernel_rfl) (by kernel_rfl) (fun _ _ _ h => h) (Or.inl ⟨by kernel_rfl, ?_⟩) (by assumption) ?_
          rotate_left
          · (intro w hSw; (try dsimp only at hSw); go_simp; try with_reducible rfl)
          try simp only [Act.put, List.setIfInBounds_toArray, List.set_cons_zero, List.set_cons_succ]
          refine wpAnyH_take (i := 4) (oi := { dst := some 53, op := Op.fieldAddr 45 (Operand.tmp 3) 1, type := 0, pos := "blocks.go:64", after := #[], guard := none }) (v := ?_) rfl (by kernel_rfl) (by kernel_rfl) (by kernel_rfl) (fun _ _ _ h => h) (Or.inl ⟨by kernel_rfl, ?_⟩) (by assumption) ?_
          rotate_left
          · (intro w hSw; (try dsimp only at hSw); go_simp; try with_reducible rfl)
          try simp only [Act.put, List.setIfInBounds_toArray, List.set_cons_zero, List.set_cons_succ]
          refine wpAnyH_take (i := 5) (oi := { dst := some 54, op := Op.load 3 (Operand.tmp 53), type := 3, pos := "blocks.go:64", after := #[{ on := 4, ground := Ground.data }], guard := none }) (v := ?_) rfl (by kernel_rfl) (by kernel_rfl) (by kernel_rfl) (fun _ _ _ h => h) (Or.inl ⟨by kernel_rfl, ?_⟩) (by assumption) ?_
          rotate_left
          · (intro w hSw; (try dsimp only at hSw); go_simp; try with_reducible rfl)
          try simp only [Act.put, List.setIfInBounds_toArray, List.set_cons_zero, List.set_cons_succ]
          refine wpAnyH_take (i := 6) (oi := { dst := some 55, op := Op.nilCheck (Operand.tmp 52), type := 0, pos := "blocks.go:64", after := #[{ on := 3, ground := Ground.data }], guard := none }) (v := ?_) rfl (by kernel_rfl) (by kernel_rfl) (by kernel_rfl) (fun _ _ _ h => h) (Or.inl ⟨by kernel_rfl, ?_⟩) (by assumption) ?_
          rotate_left
          · (intro w hSw; (try dsimp only at hSw); go_simp; try with_reducible rfl)
          try simp only [Act.put, List.setIfInBounds_toArray, List.set_cons_zero, List.set_cons_succ]
          refine wpAnyH_take (i := 7) (oi := { dst := some 56, op := Op.fieldAddr 65 (Operand.tmp 55) 1, type := 0, pos := "blocks.go:64", after := #[{ on := 6, ground := Ground.data }], guard := none }) (v := ?_) rfl (by kernel_rfl) (by kernel_rfl) (by kernel_rfl) (fun _ _ _ h => h) (Or.inl ⟨by kernel_rfl, ?_⟩) (by assumption) ?_
          rotate_left
          · (intro w hSw; (try dsimp only at hSw); go_simp; try with_reducible rfl)
          try simp only [Act.put, List.setIfInBounds_toArray, List.set_cons_zero, List.set_cons_succ]
          refine wpAnyH_take (i := 8) (oi := { dst := some 57, op := Op.indexAddr 63 (Operand.tmp 56) (Operand.tmp 54), type := 0, pos := "blocks.go:64", after := #[{ on := 7, ground := Ground.data }, { on := 5, ground := Ground.data }], guard := none }) (v := ?_) rfl (by kernel_rfl) (by kernel_rfl) (by kernel_rfl) (fun _ _ _ h => h) (Or.inl ⟨by kernel_rfl, ?_⟩) (by assumption) ?_
          rotate_left
          · (intro w hSw; (try dsimp only at hSw); go_simp; try with_reducible rfl)
          try simp only [Act.put, List.setIfInBounds_toArray, List.set_cons_zero, List.set_cons_succ]
          refine wpAnyH_take (i := 10) (oi := { dst := some 59, op := Op.move (Operand.tmp 5), type := 3, pos := "blocks.go:64", after := #[], guard := none }) (v := ?_) rfl (by kernel_rfl) (by kernel_rfl) (by kernel_rfl) (fun _ _ _ h => h) (Or.inl ⟨by kernel_rfl, ?_⟩) (by assumption) ?_
          rotate_left
          · (intro w hSw; (try dsimp only at hSw); go_simp; try with_reducible rfl)
          try simp only [Act.put, List.setIfInBounds_toArray, List.set_cons_zero, List.set_cons_succ]
          refine wpAnyH_take (i := 11) (oi := { dst := some 60, op := Op.fieldAddr 45 (Operand.tmp 3) 0, type := 0, pos := "blocks.go:64", after := #[], guard := none }) (v := ?_) rfl (by kernel_rfl) (by kernel_rfl) (by kernel_rfl) (fun _ _ _ h => h) (Or.inl ⟨by kernel_rfl, ?_⟩) (by assumption) ?_
          rotate_left
          · (intro w hSw; (try dsimp only at hSw); go_simp; try with_reducible rfl)
          try simp only [Act.put, List.setIfInBounds_toArray, List.set_cons_zero, List.set_cons_succ]
          refine wpAnyH_take (i := 12) (oi := { dst := some 61, op := Op.load 3 (Operand.tmp 60), type := 3, pos := "blocks.go:64", after := #[{ on := 11, ground := Ground.data }], guard := none }) (v := ?_) rfl (by kernel_rfl) (by kernel_rfl) (by kernel_rfl) (fun _ _ _ h => h) (Or.inl ⟨by kernel_rfl, ?_⟩) (by assumption) ?_
          rotate_left
          · (intro w hSw; (try dsimp only at hSw); go_simp; try with_reducible rfl)
          try simp only [Act.put, List.setIfInBounds_toArray, List.set_cons_zero, List.set_cons_succ]
          refine wpAnyH_take (i := 15) (oi := { dst := some 64, op := Op.nilCheck (Operand.tmp 49), type := 0, pos := "blocks.go:64", after := #[{ on := 0, ground := Ground.data }], guard := none }) (v := ?_) rfl (by kernel_rfl) (by kernel_rfl) (by kernel_rfl) (fun _ _ _ h => h) (Or.inl ⟨by kernel_rfl, ?_⟩) (by assumption) ?_
          rotate_left
          · (intro w hSw; (try dsimp only at hSw); go_simp; try with_reducible rfl)
          try simp only [Act.put, List.setIfInBounds_toArray, List.set_cons_zero, List.set_cons_succ]
          refine wpAnyH_take (i := 16) (oi := { dst := some 65, op := Op.fieldAddr 65 (Operand.tmp 64) 1, type := 0, pos := "blocks.go:64", after := #[{ on := 15, ground := Ground.data }], guard := none }) (v := ?_) rfl (by kernel_rfl) (by kernel_rfl) (by kernel_rfl) (fun _ _ _ h => h) (Or.inl ⟨by kernel_rfl, ?_⟩) (by assumption) ?_
          rotate_left
          · (intro w hSw; (try dsimp only at hSw); go_simp; try with_reducible rfl)
          try simp only [Act.put, List.setIfInBounds_toArray, List.set_cons_zero, List.set_cons_succ]
          refine wpAnyH_ready (rs := [9, 13]) (by kernel_rfl) (by simp) ?_
          refine AllReadyH.cons (o := { dst := some 58, op := Op.load 23 (Operand.tmp 57), type := 23, pos := "blocks.go:64", after := #[{ on := 8, ground := Ground.data }], guard := none }) rfl (fun K hK => ?_) (AllReadyH.cons (o := { dst := some 62, op := Op.buildSlice 23 1 #[(0, Operand.tmp 61)], type := 23, pos := "blocks.go:64", after := #[{ on := 12, ground := Ground.data }], guard := none }) rfl (fun K hK => ?_) AllReadyH.nil)
          rotate_left
          · go_simp
            refine hK.out _ _ ?_ (fun hHeld => ?_)
            · first
                | exact ⟨hg0, hg1⟩
                | exact ⟨hbl2 _ _ _, hbl3 _ _ _⟩
                | exact ⟨by assumption, by assumption⟩
                | exact ⟨(World.cell?_setCell_far _ _ _ _ hyg).trans (by assumption), (World.cell?_setCell_far _ _ _ _ hyg).trans (by assumption)⟩
            clear hK K
            try simp only [Act.put, List.setIfInBounds_toArray, List.set_cons_zero, List.set_cons_succ]
            refine wpAnyH_ready (rs := [9]) (by kernel_rfl) (by simp) ?_
            refine AllReadyH.cons (o := { dst := some 58, op := Op.load 23 (Operand.tmp 57), type := 23, pos := "blocks.go:64", after := #[{ on := 8, ground := Ground.data }], guard := none }) rfl (fun K hK => ?_) AllReadyH.nil
            go_simp
            refine hK.out _ _ ?_ (fun hHeld => ?_)
            · first
                | exact ⟨hg0, hg1⟩
                | exact ⟨hbl2 _ _ _, hbl3 _ _ _⟩
                | exact ⟨by assumption, by assumption⟩
                | exact ⟨(World.cell?_setCell_far _ _ _ _ hyg).trans (by assumption), (World.cell?_setCell_far _ _ _ _ hyg).trans (by assumption)⟩
            clear hK K
            try simp only [Act.put, List.setIfInBounds_toArray, List.set_cons_zero, List.set_cons_succ]
            refine wpAnyH_ready (rs := [14]) (by kernel_rfl) (by simp) ?_
            refine AllReadyH.cons (o := { dst := some 63, op := Op.call { callee := Callee.value (Operand.func 61), args := #[Operand.tmp 58, Operand.tmp 59, Operand.tmp 62], argTypes := #[23, 3, 23] }, type := 23, pos := "blocks.go:64", after := #[{ on := 9, ground := Ground.data }, { on := 10, ground := Ground.data }, { on := 13, ground := Ground.data }], guard := none }) rfl (fun K hK => ?_) AllReadyH.nil
            (go_simp; go_at_call 61; ((with_reducible refine (hIN.out _ ⟨_, rfl⟩).mono ?_); rintro e w2 ⟨va, vn, vc, rfl, ⟨d1, d2, d3⟩, hfin⟩; have d4 := d3.out.cell 0; have d5 := d3.out.cell 1; simp at d4 d5; go_simp))
            refine hK.out _ _ ?_ (fun hHeld => ?_)
            · first
                | exact ⟨hg0, hg1⟩
                | exact ⟨hbl2 _ _ _, hbl3 _ _ _⟩
                | exact ⟨by assumption, by assumption⟩
                | exact ⟨(World.cell?_setCell_far _ _ _ _ hyg).trans (by assumption), (World.cell?_setCell_far _ _ _ _ hyg).trans (by assumption)⟩
            clear hK K
            try simp only [Act.put, List.setIfInBounds_toArray, List.set_cons_zero, List.set_cons_succ]
            refine wpAnyH_take (i := 17) (oi := { dst := some 66, op := Op.indexAddr 63 (Operand.tmp 65) (Operand.tmp 51), type := 0, pos := "blocks.go:64", after := #[{ on := 16, ground := Ground.data }, { on := 2, ground := Ground.data }, { on := 0, ground := Ground.phase }, { on := 1, ground := Ground.phase }, { on := 2, ground := Ground.phase }, { on := 3, ground := Ground.phase }, { on := 4, ground := Ground.phase }, { on := 5, ground := Ground.phase }, { on := 6, ground := Ground.phase }, { on := 7, ground := Ground.phase }, { on := 8, ground := Ground.phase }, { on := 9, ground := Ground.phase }, { on := 10, ground := Ground.phase }, { on := 11, ground := Ground.phase }, { on := 12, ground := Ground.phase }, { on := 13, ground := Ground.phase }, { on := 14, ground := Ground.phase }], guard := none }) (v := ?_) rfl (by kernel_rfl) (by kernel_rfl) (by kernel_rfl) (fun _ _ _ h => h) (Or.inl ⟨by kernel_rfl, ?_⟩) (by assumption) ?_
            rotate_left
            · (intro w hSw; (try dsimp only at hSw); go_simp; try with_reducible rfl)
            try simp only [Act.put, List.setIfInBounds_toArray, List.set_cons_zero, List.set_cons_succ]
            refine wpAnyH_ready (rs := [18]) (by kernel_rfl) (by simp) ?_
            refine AllReadyH.cons (o := { dst := none, op := Op.store 23 (Operand.tmp 66) (Operand.tmp 63), type := 0, pos := "blocks.go:64", after := #[{ on := 17, ground := Ground.data }, { on := 14, ground := Ground.data }, { on := 14, ground := Ground.chain }, { on := 0, ground := Ground.phase }, { on := 1, ground := Ground.phase }, { on := 2, ground := Ground.phase }, { on := 3, ground := Ground.phase }, { on := 4, ground := Ground.phase }, { on := 5, ground := Ground.phase }, { on := 6, ground := Ground.phase }, { on := 7, ground := Ground.phase }, { on := 8, ground := Ground.phase }, { on := 9, ground := Ground.phase }, { on := 10, ground := Ground.phase }, { on := 11, ground := Ground.phase }, { on := 12, ground := Ground.phase }, { on := 13, ground := Ground.phase }, { on := 14, ground := Ground.phase }], guard := none }) rfl (fun K hK => ?_) AllReadyH.nil
            go_simp
            refine hK.out _ _ ?_ (fun hHeld => ?_)
            · first
                | exact ⟨hg0, hg1⟩
                | exact ⟨hbl2 _ _ _, hbl3 _ _ _⟩
                | exact ⟨by assumption, by assumption⟩
                | exact ⟨(World.cell?_setCell_far _ _ _ _ hyg).trans (by assumption), (World.cell?_setCell_far _ _ _ _ hyg).trans (by assumption)⟩
            clear hK K
            try simp only [Act.put, List.setIfInBounds_toArray, List.set_cons_zero, List.set_cons_succ]
            refine wpAnyH_done (by kernel_rfl) ?_ _
            go_wp2_with fail
            go_returns
            exact ⟨rfl, insFin (fun k hk => by have := hk.1; rw [HOW.out] at this; exact this.1) HI.out.2 HCC.out hfin.out⟩
          · go_simp
            refine hK.out _ _ ?_ (fun hHeld => ?_)
            · first
                | exact ⟨hg0, hg1⟩
                | exact ⟨hbl2 _ _ _, hbl3 _ _ _⟩
                | exact ⟨by assumption, by assumption⟩
                | exact ⟨(World.cell?_setCell_far _ _ _ _ hyg).trans (by assumption), (World.cell?_setCell_far _ _ _ _ hyg).trans (by assumption)⟩
            clear hK K
            try simp only [Act.put, List.setIfInBounds_toArray, List.set_cons_zero, List.set_cons_succ]
            refine wpAnyH_ready (rs := [13]) (by kernel_rfl) (by simp) ?_
            refine AllReadyH.cons (o := { dst := some 62, op := Op.buildSlice 23 1 #[(0, Operand.tmp 61)], type := 23, pos := "blocks.go:64", after := #[{ on := 12, ground := Ground.data }], guard := none }) rfl (fun K hK => ?_) AllReadyH.nil
            go_simp
            refine hK.out _ _ ?_ (fun hHeld => ?_)
            · first
                | exact ⟨hg0, hg1⟩
                | exact ⟨hbl2 _ _ _, hbl3 _ _ _⟩
                | exact ⟨by assumption, by assumption⟩
                | exact ⟨(World.cell?_setCell_far _ _ _ _ hyg).trans (by assumption), (World.cell?_setCell_far _ _ _ _ hyg).trans (by assumption)⟩
            clear hK K
            try simp only [Act.put, List.setIfInBounds_toArray, List.set_cons_zero, List.set_cons_succ]
            refine wpAnyH_ready (rs := [14]) (by kernel_rfl) (by simp) ?_
            refine AllReadyH.cons (o := { dst := some 63, op := Op.call { callee := Callee.value (Operand.func 61), args := #[Operand.tmp 58, Operand.tmp 59, Operand.tmp 62], argTypes := #[23, 3, 23] }, type := 23, pos := "blocks.go:64", after := #[{ on := 9, ground := Ground.data }, { on := 10, ground := Ground.data }, { on := 13, ground := Ground.data }], guard := none }) rfl (fun K hK => ?_) AllReadyH.nil
            (go_simp; go_at_call 61; ((with_reducible refine (hIN.out _ ⟨_, rfl⟩).mono ?_); rintro e w2 ⟨va, vn, vc, rfl, ⟨d1, d2, d3⟩, hfin⟩; have d4 := d3.out.cell 0; have d5 := d3.out.cell 1; simp at d4 d5; go_simp))
            refine hK.out _ _ ?_ (fun hHeld => ?_)
            · first
                | exact ⟨hg0, hg1⟩
                | exact ⟨hbl2 _ _ _, hbl3 _ _ _⟩
                | exact ⟨by assumption, by assumption⟩
                | exact ⟨(World.cell?_setCell_far _ _ _ _ hyg).trans (by assumption), (World.cell?_setCell_far _ _ _ _ hyg).trans (by assumption)⟩
            clear hK K
            try simp only [Act.put, List.setIfInBounds_toArray, List.set_cons_zero, List.set_cons_succ]
            refine wpAnyH_take (i := 17) (oi := { dst := some 66, op := Op.indexAddr 63 (Operand.tmp 65) (Operand.tmp 51), type := 0, pos := "blocks.go:64", after := #[{ on := 16, ground := Ground.data }, { on := 2, ground := Ground.data }, { on := 0, ground := Ground.phase }, { on := 1, ground := Ground.phase }, { on := 2, ground := Ground.phase }, { on := 3, ground := Ground.phase }, { on := 4, ground := Ground.phase }, { on := 5, ground := Ground.phase }, { on := 6, ground := Ground.phase }, { on := 7, ground := Ground.phase }, { on := 8, ground := Ground.phase }, { on := 9, ground := Ground.phase }, { on := 10, ground := Ground.phase }, { on := 11, ground := Ground.phase }, { on := 12, ground := Ground.phase }, { on := 13, ground := Ground.phase }, { on := 14, ground := Ground.phase }], guard := none }) (v := ?_) rfl (by kernel_rfl) (by kernel_rfl) (by kernel_rfl) (fun _ _ _ h => h) (Or.inl ⟨by kernel_rfl, ?_⟩) (by assumption) ?_
            rotate_left
            · (intro w hSw; (try dsimp only at hSw); go_simp; try with_reducible rfl)
            try simp only [Act.put, List.setIfInBounds_toArray, List.set_cons_zero, List.set_cons_succ]
            refine wpAnyH_ready (rs := [18]) (by kernel_rfl) (by simp) ?_
            refine AllReadyH.cons (o := { dst := none, op := Op.store 23 (Operand.tmp 66) (Operand.tmp 63), type := 0, pos := "blocks.go:64", after := #[{ on := 17, ground := Ground.data }, { on := 14, ground := Ground.data }, { on := 14, ground := Ground.chain }, { on := 0, ground := Ground.phase }, { on := 1, ground := Ground.phase }, { on := 2, ground := Ground.phase }, { on := 3, ground := Ground.phase }, { on := 4, ground := Ground.phase }, { on := 5, ground := Ground.phase }, { on := 6, ground := Ground.phase }, { on := 7, ground := Ground.phase }, { on := 8, ground := Ground.phase }, { on := 9, ground := Ground.phase }, { on := 10, ground := Ground.phase }, { on := 11, ground := Ground.phase }, { on := 12, ground := Ground.phase }, { on := 13, ground := Ground.phase }, { on := 14, ground := Ground.phase }], guard := none }) rfl (fun K hK => ?_) AllReadyH.nil
            go_simp
            refine hK.out _ _ ?_ (fun hHeld => ?_)
            · first
                | exact ⟨hg0, hg1⟩
                | exact ⟨hbl2 _ _ _, hbl3 _ _ _⟩
                | exact ⟨by assumption, by assumption⟩
                | exact ⟨(World.cell?_setCell_far _ _ _ _ hyg).trans (by assumption), (World.cell?_setCell_far _ _ _ _ hyg).trans (by assumption)⟩
            clear hK K
            try simp only [Act.put, List.setIfInBounds_toArray, List.set_cons_zero, List.set_cons_succ]
            refine wpAnyH_done (by kernel_rfl) ?_ _
            go_wp2_with fail
            go_returns
            exact ⟨rfl, insFin (fun k hk => by have := hk.1; rw [HOW.out] at this; exact this.1) HI.out.2 HCC.out hfin.out⟩
    · have hd : decide ((o' : Int) < (n : Int)) = false := decide_eq_false hlt
      obtain ⟨W1, hW1⟩ : ∃ W1, W1 = wr.drew := ⟨_, rfl⟩
      have hk1 : Below wr.heap.size wr W1 := by rw [hW1]; exact (Below.refl _ _).drew
      have HBB1 := HBB.kept hk1
      obtain ⟨v, p, f, hv, BS, IN⟩ := insTail y own' n op' tk fl o' s' W1 HI.out.1 (fun h => absurd h (by omega)) (HY.out.kept hk1) gB _ HBB1 (fun h => by rw [HOW.out] at h; exact h.2 rfl)
      have hBS := Lib.hid BS
      have hIN := Lib.hid IN
      have HC1 : Hid (Chg own w W1) := HC.out.trans (Chg.of_below hk1)
      have hb2 := HBB1.cell 0
      have hb3 := HBB1.cell 1
      simp at hb2 hb3
      have hoi : (o' : Int) < 11 := by omega
      have hoz : (0 : Int) ≤ (o' : Int) := by omega
      have hal1 : ∀ q C t, ((W1.drewN q).alloc (.cells C t)).cell? ⟨y, 1 + o', none⟩ = some v := fun q C t => cell_next (w2 := (W1.drewN q).alloc (.cells C t)) (below_drewN (Below.refl _ _) q |>.alloc (Nat.le_refl _) _) hv
      have hal2 : ∀ q C t, ((W1.drewN q).alloc (.cells C t)).cell? ⟨gB, 0, none⟩ = some (.int .i64 (s' : Int)) := fun q C t => cell_next (w2 := (W1.drewN q).alloc (.cells C t)) (below_drewN (Below.refl _ _) q |>.alloc (Nat.le_refl _) _) hb2
      have hal3 : ∀ q C t, ((W1.drewN q).alloc (.cells C t)).cell? ⟨gB, 1, none⟩ = some (.int .i64 (o' : Int)) := fun q C t => cell_next (w2 := (W1.drewN q).alloc (.cells C t)) (below_drewN (Below.refl _ _) q |>.alloc (Nat.le_refl _) _) hb3
      have hyg : y ≠ gB := fun e => by have h := HY.out.yown; rw [HOW.out, e] at h; exact h.2 rfl
      clear BS IN hk1
      go_wp2_with fail
      go_region
      rw [← hW1]
      clear hW1
      go_wp2_with fail
      go_quiet (first | (go_at_call 60; exact Calls.quiet_of (hBS.out _ ⟨_, rfl⟩)))
      go_wp2_with fail
      refine wp_region_held_drew (S := (fun w' => w'.cell? ⟨gB, 0, none⟩ = some (.int .i64 (s' : Int)) ∧ w'.cell? ⟨gB, 1, none⟩ = some (.int .i64 (o' : Int)))) (by kernel_rfl) (by
        first
          | exact ⟨hb2, hb3⟩
          | exact ⟨hal2 _ _ _, hal3 _ _ _⟩
          | exact ⟨by assumption, by assumption⟩
          | exact ⟨(World.cell?_setCell_far _ _ _ _ hyg).trans (by assumption), (World.cell?_setCell_far _ _ _ _ hyg).trans (by assumption)⟩
        ) (fun hHeld => ?_)
      refine wpAnyH_take (i := 0) (oi := { dst := some 49, op := Op.move (Operand.tmp 0), type := 25, pos := "blocks.go:64", after := #[], guard := none }) (v := ?_) rfl (by kernel_rfl) (by kernel_rfl) (by kernel_rfl) (fun _ _ _ h => h) (Or.inl ⟨by kernel_rfl, ?_⟩) (by assumption) ?_
      rotate_left
      · (intro w hSw; (try dsimp only at hSw); go_simp; try with_reducible rfl)
      try simp only [Act.put, List.setIfInBounds_toArray, List.set_cons_zero, List.set_cons_succ]
      refine wpAnyH_take (i := 1) (oi := { dst := some 50, op := Op.fieldAddr 45 (Operand.tmp 3) 1, type := 0, pos := "blocks.go:64", after := #[], guard := none }) (v := ?_) rfl (by kernel_rfl) (by kernel_rfl) (by kernel_rfl) (fun _ _ _ h => h) (Or.inl ⟨by kernel_rfl, ?_⟩) (by assumption) ?_
      rotate_left
      · (intro w hSw; (try dsimp only at hSw); go_simp; try with_reducible rfl)
      try simp only [Act.put, List.setIfInBounds_toArray, List.set_cons_zero, List.set_cons_succ]
      refine wpAnyH_take (i := 2) (oi := { dst := some 51, op := Op.load 3 (Operand.tmp 50), type := 3, pos := "blocks.go:64", after := #[{ on := 1, ground := Ground.data }], guard := none }) (v := ?_) rfl (by kernel_rfl) (by kernel_rfl) (by kernel_rfl) (fun _ _ _ h => h) (Or.inl ⟨by kernel_rfl, ?_⟩) (by assumption) ?_
      rotate_left
      · (intro w hSw; (try dsimp only at hSw); go_simp; try with_reducible rfl)
      try simp only [Act.put, List.setIfInBounds_toArray, List.set_cons_zero, List.set_cons_succ]
      refine wpAnyH_take (i := 3) (oi := { dst := some 52, op := Op.move (Operand.tmp 0), type := 25, pos := "blocks.go:64", after := #[], guard := none }) (v := ?_) rfl (by kernel_rfl) (by kernel_rfl) (by kernel_rfl) (fun _ _ _ h => h) (Or.inl ⟨by kernel_rfl, ?_⟩) (by assumption) ?_
      rotate_left
      · (intro w hSw; (try dsimp only at hSw); go_simp; try with_reducible rfl)
      try simp only [Act.put, List.setIfInBounds_toArray, List.set_cons_zero, List.set_cons_succ]
      refine wpAnyH_take (i := 4) (oi := { dst := some 53, op := Op.fieldAddr 45 (Operand.tmp 3) 1, type := 0, pos := "blocks.go:64", after := #[], guard := none }) (v := ?_) rfl (by kernel_rfl) (by kernel_rfl) (by kernel_rfl) (fun _ _ _ h => h) (Or.inl ⟨by kernel_rfl, ?_⟩) (by assumption) ?_
      rotate_left
      · (intro w hSw; (try dsimp only at hSw); go_simp; try with_reducible rfl)
      try simp only [Act.put, List.setIfInBounds_toArray, List.set_cons_zero, List.set_cons_succ]
      refine wpAnyH_take (i := 5) (oi := { dst := some 54, op := Op.load 3 (Operand.tmp 53), type := 3, pos := "blocks.go:64", after := #[{ on := 4, ground := Ground.data }], guard := none }) (v := ?_) rfl (by kernel_rfl) (by kernel_rfl) (by kernel_rfl) (fun _ _ _ h => h) (Or.inl ⟨by kernel_rfl, ?_⟩) (by assumption) ?_
      rotate_left
      · (intro w hSw; (try dsimp only at hSw); go_simp; try with_reducible rfl)
      try simp only [Act.put, List.setIfInBounds_toArray, List.set_cons_zero, List.set_cons_succ]
      refine wpAnyH_take (i := 6) (oi := { dst := some 55, op := Op.nilCheck (Operand.tmp 52), type := 0, pos := "blocks.go:64", after := #[{ on := 3, ground := Ground.data }], guard := none }) (v := ?_) rfl (by kernel_rfl) (by kernel_rfl) (by kernel_rfl) (fun _ _ _ h => h) (Or.inl ⟨by kernel_rfl, ?_⟩) (by assumption) ?_
      rotate_left
      · (intro w hSw; (try dsimp only at hSw); go_simp; try with_reducible rfl)
      try simp only [Act.put, List.setIfInBounds_toArray, List.set_cons_zero, List.set_cons_succ]
      refine wpAnyH_take (i := 7) (oi := { dst := some 56, op := Op.fieldAddr 65 (Operand.tmp 55) 1, type := 0, pos := "blocks.go:64", after := #[{ on := 6, ground := Ground.data }], guard := none }) (v := ?_) rfl (by kernel_rfl) (by kernel_rfl) (by kernel_rfl) (fun _ _ _ h => h) (Or.inl ⟨by kernel_rfl, ?_⟩) (by assumption) ?_
      rotate_left
      · (intro w hSw; (try dsimp only at hSw); go_simp; try with_reducible rfl)
      try simp only [Act.put, List.setIfInBounds_toArray, List.set_cons_zero, List.set_cons_succ]
      refine wpAnyH_take (i := 8) (oi := { dst := some 57, op := Op.indexAddr 63 (Operand.tmp 56) (Operand.tmp 54), type := 0, pos := "blocks.go:64", after := #[{ on := 7, ground := Ground.data }, { on := 5, ground := Ground.data }], guard := none }) (v := ?_) rfl (by kernel_rfl) (by kernel_rfl) (by kernel_rfl) (fun _ _ _ h => h) (Or.inl ⟨by kernel_rfl, ?_⟩) (by assumption) ?_
      rotate_left
      · (intro w hSw; (try dsimp only at hSw); go_simp; try with_reducible rfl)
      try simp only [Act.put, List.setIfInBounds_toArray, List.set_cons_zero, List.set_cons_succ]
      refine wpAnyH_take (i := 10) (oi := { dst := some 59, op := Op.move (Operand.tmp 5), type := 3, pos := "blocks.go:64", after := #[], guard := none }) (v := ?_) rfl (by kernel_rfl) (by kernel_rfl) (by kernel_rfl) (fun _ _ _ h => h) (Or.inl ⟨by kernel_rfl, ?_⟩) (by assumption) ?_
      rotate_left
      · (intro w hSw; (try dsimp only at hSw); go_simp; try with_reducible rfl)
      try simp only [Act.put, List.setIfInBounds_toArray, List.set_cons_zero, List.set_cons_succ]
      refine wpAnyH_take (i := 11) (oi := { dst := some 60, op := Op.fieldAddr 45 (Operand.tmp 3) 0, type := 0, pos := "blocks.go:64", after := #[], guard := none }) (v := ?_) rfl (by kernel_rfl) (by kernel_rfl) (by kernel_rfl) (fun _ _ _ h => h) (Or.inl ⟨by kernel_rfl, ?_⟩) (by assumption) ?_
      rotate_left
      · (intro w hSw; (try dsimp only at hSw); go_simp; try with_reducible rfl)
      try simp only [Act.put, List.setIfInBounds_toArray, List.set_cons_zero, List.set_cons_succ]
      refine wpAnyH_take (i := 12) (oi := { dst := some 61, op := Op.load 3 (Operand.tmp 60), type := 3, pos := "blocks.go:64", after := #[{ on := 11, ground := Ground.data }], guard := none }) (v := ?_) rfl (by kernel_rfl) (by kernel_rfl) (by kernel_rfl) (fun _ _ _ h => h) (Or.inl ⟨by kernel_rfl, ?_⟩) (by assumption) ?_
      rotate_left
      · (intro w hSw; (try dsimp only at hSw); go_simp; try with_reducible rfl)
      try simp only [Act.put, List.setIfInBounds_toArray, List.set_cons_zero, List.set_cons_succ]
      refine wpAnyH_take (i := 15) (oi := { dst := some 64, op := Op.nilCheck (Operand.tmp 49), type := 0, pos := "blocks.go:64", after := #[{ on := 0, ground := Ground.data }], guard := none }) (v := ?_) rfl (by kernel_rfl) (by kernel_rfl) (by kernel_rfl) (fun _ _ _ h => h) (Or.inl ⟨by kernel_rfl, ?_⟩) (by assumption) ?_
      rotate_left
      · (intro w hSw; (try dsimp only at hSw); go_simp; try with_reducible rfl)
      try simp only [Act.put, List.setIfInBounds_toArray, List.set_cons_zero, List.set_cons_succ]
      refine wpAnyH_take (i := 16) (oi := { dst := some 65, op := Op.fieldAddr 65 (Operand.tmp 64) 1, type := 0, pos := "blocks.go:64", after := #[{ on := 15, ground := Ground.data }], guard := none }) (v := ?_) rfl (by kernel_rfl) (by kernel_rfl) (by kernel_rfl) (fun _ _ _ h => h) (Or.inl ⟨by kernel_rfl, ?_⟩) (by assumption) ?_
      rotate_left
      · (intro w hSw; (try dsimp only at hSw); go_simp; try with_reducible rfl)
      try simp only [Act.put, List.setIfInBounds_toArray, List.set_cons_zero, List.set_cons_succ]
      refine wpAnyH_ready (rs := [9, 13]) (by kernel_rfl) (by simp) ?_
      refine AllReadyH.cons (o := { dst := some 58, op := Op.load 23 (Operand.tmp 57), type := 23, pos := "blocks.go:64", after := #[{ on := 8, ground := Ground.data }], guard := none }) rfl (fun K hK => ?_) (AllReadyH.cons (o := { dst := some 62, op := Op.buildSlice 23 1 #[(0, Operand.tmp 61)], type := 23, pos := "blocks.go:64", after := #[{ on := 12, ground := Ground.data }], guard := none }) rfl (fun K hK => ?_) AllReadyH.nil)
      rotate_left
      · go_simp
        refine hK.out _ _ ?_ (fun hHeld => ?_)
        · first
            | exact ⟨hb2, hb3⟩
            | exact ⟨hal2 _ _ _, hal3 _ _ _⟩
            | exact ⟨by assumption, by assumption⟩
            | exact ⟨(World.cell?_setCell_far _ _ _ _ hyg).trans (by assumption), (World.cell?_setCell_far _ _ _ _ hyg).trans (by assumption)⟩
        clear hK K
        try simp only [Act.put, List.setIfInBounds_toArray, List.set_cons_zero, List.set_cons_succ]
        refine wpAnyH_ready (rs := [9]) (by kernel_rfl) (by simp) ?_
        refine AllReadyH.cons (o := { dst := some 58, op := Op.load 23 (Operand.tmp 57), type := 23, pos := "blocks.go:64", after := #[{ on := 8, ground := Ground.data }], guard := none }) rfl (fun K hK => ?_) AllReadyH.nil
        go_simp
        refine hK.out _ _ ?_ (fun hHeld => ?_)
        · first
            | exact ⟨hb2, hb3⟩
            | exact ⟨hal2 _ _ _, hal3 _ _ _⟩
            | exact ⟨by assumption, by assumption⟩
            | exact ⟨(World.cell?_setCell_far _ _ _ _ hyg).trans (by assumption), (World.cell?_setCell_far _ _ _ _ hyg).trans (by assumption)⟩
        clear hK K
        try simp only [Act.put, List.setIfInBounds_toArray, List.set_cons_zero, List.set_cons_succ]
        refine wpAnyH_ready (rs := [14]) (by kernel_rfl) (by simp) ?_
        refine AllReadyH.cons (o := { dst := some 63, op := Op.call { callee := Callee.value (Operand.func 61), args := #[Operand.tmp 58, Operand.tmp 59, Operand.tmp 62], argTypes := #[23, 3, 23] }, type := 23, pos := "blocks.go:64", after := #[{ on := 9, ground := Ground.data }, { on := 10, ground := Ground.data }, { on := 13, ground := Ground.data }], guard := none }) rfl (fun K hK => ?_) AllReadyH.nil
        (go_simp; go_at_call 61; ((with_reducible refine (hIN.out _ ⟨_, rfl⟩).mono ?_); rintro e w2 ⟨va, vn, vc, rfl, ⟨d1, d2, d3⟩, hfin⟩; have d4 := d3.out.cell 0; have d5 := d3.out.cell 1; simp at d4 d5; go_simp))
        refine hK.out _ _ ?_ (fun hHeld => ?_)
        · first
            | exact ⟨hb2, hb3⟩
            | exact ⟨hal2 _ _ _, hal3 _ _ _⟩
            | exact ⟨by assumption, by assumption⟩
            | exact ⟨(World.cell?_setCell_far _ _ _ _ hyg).trans (by assumption), (World.cell?_setCell_far _ _ _ _ hyg).trans (by assumption)⟩
        clear hK K
        try simp only [Act.put, List.setIfInBounds_toArray, List.set_cons_zero, List.set_cons_succ]
        refine wpAnyH_take (i := 17) (oi := { dst := some 66, op := Op.indexAddr 63 (Operand.tmp 65) (Operand.tmp 51), type := 0, pos := "blocks.go:64", after := #[{ on := 16, ground := Ground.data }, { on := 2, ground := Ground.data }, { on := 0, ground := Ground.phase }, { on := 1, ground := Ground.phase }, { on := 2, ground := Ground.phase }, { on := 3, ground := Ground.phase }, { on := 4, ground := Ground.phase }, { on := 5, ground := Ground.phase }, { on := 6, ground := Ground.phase }, { on := 7, ground := Ground.phase }, { on := 8, ground := Ground.phase }, { on := 9, ground := Ground.phase }, { on := 10, ground := Ground.phase }, { on := 11, ground := Ground.phase }, { on := 12, ground := Ground.phase }, { on := 13, ground := Ground.phase }, { on := 14, ground := Ground.phase }], guard := none }) (v := ?_) rfl (by kernel_rfl) (by kernel_rfl) (by kernel_rfl) (fun _ _ _ h => h) (Or.inl ⟨by kernel_rfl, ?_⟩) (by assumption) ?_
        rotate_left
        · (intro w hSw; (try dsimp only at hSw); go_simp; try with_reducible rfl)
        try simp only [Act.put, List.setIfInBounds_toArray, List.set_cons_zero, List.set_cons_succ]
        refine wpAnyH_ready (rs := [18]) (by kernel_rfl) (by simp) ?_
        refine AllReadyH.cons (o := { dst := none, op := Op.store 23 (Operand.tmp 66) (Operand.tmp 63), type := 0, pos := "blocks.go:64", after := #[{ on := 17, ground := Ground.data }, { on := 14, ground := Ground.data }, { on := 14, ground := Ground.chain }, { on := 0, ground := Ground.phase }, { on := 1, ground := Ground.phase }, { on := 2, ground := Ground.phase }, { on := 3, ground := Ground.phase }, { on := 4, ground := Ground.phase }, { on := 5, ground := Ground.phase }, { on := 6, ground := Ground.phase }, { on := 7, ground := Ground.phase }, { on := 8, ground := Ground.phase }, { on := 9, ground := Ground.phase }, { on := 10, ground := Ground.phase }, { on := 11, ground := Ground.phase }, { on := 12, ground := Ground.phase }, { on := 13, ground := Ground.phase }, { on := 14, ground := Ground.phase }], guard := none }) rfl (fun K hK => ?_) AllReadyH.nil
        go_simp
        refine hK.out _ _ ?_ (fun hHeld => ?_)
        · first
            | exact ⟨hb2, hb3⟩
            | exact ⟨hal2 _ _ _, hal3 _ _ _⟩
            | exact ⟨by assumption, by assumption⟩
            | exact ⟨(World.cell?_setCell_far _ _ _ _ hyg).trans (by assumption), (World.cell?_setCell_far _ _ _ _ hyg).trans (by assumption)⟩
        clear hK K
        try simp only [Act.put, List.setIfInBounds_toArray, List.set_cons_zero, List.set_cons_succ]
        refine wpAnyH_done (by kernel_rfl) ?_ _
        go_wp2_with fail
        go_returns
        exact ⟨rfl, insFin (fun k hk => by rw [HOW.out] at hk; exact hk.1) HI.out.2 HC1.out hfin.out⟩
      · go_simp
        refine hK.out _ _ ?_ (fun hHeld => ?_)
        · first
            | exact ⟨hb2, hb3⟩
            | exact ⟨hal2 _ _ _, hal3 _ _ _⟩
            | exact ⟨by assumption, by assumption⟩
            | exact ⟨(World.cell?_setCell_far _ _ _ _ hyg).trans (by assumption), (World.cell?_setCell_far _ _ _ _ hyg).trans (by assumption)⟩
        clear hK K
        try simp only [Act.put, List.setIfInBounds_toArray, List.set_cons_zero, List.set_cons_succ]
        refine wpAnyH_ready (rs := [13]) (by kernel_rfl) (by simp) ?_
        refine AllReadyH.cons (o := { dst := some 62, op := Op.buildSlice 23 1 #[(0, Operand.tmp 61)], type := 23, pos := "blocks.go:64", after := #[{ on := 12, ground := Ground.data }], guard := none }) rfl (fun K hK => ?_) AllReadyH.nil
        go_simp
        refine hK.out _ _ ?_ (fun hHeld => ?_)
        · first
            | exact ⟨hb2, hb3⟩
            | exact ⟨hal2 _ _ _, hal3 _ _ _⟩
            | exact ⟨by assumption, by assumption⟩
            | exact ⟨(World.cell?_setCell_far _ _ _ _ hyg).trans (by assumption), (World.cell?_setCell_far _ _ _ _ hyg).trans (by assumption)⟩
        clear hK K
        try simp only [Act.put, List.setIfInBounds_toArray, List.set_cons_zero, List.set_cons_succ]
        refine wpAnyH_ready (rs := [14]) (by kernel_rfl) (by simp) ?_
        refine AllReadyH.cons (o := { dst := some 63, op := Op.call { callee := Callee.value (Operand.func 61), args := #[Operand.tmp 58, Operand.tmp 59, Operand.tmp 62], argTypes := #[23, 3, 23] }, type := 23, pos := "blocks.go:64", after := #[{ on := 9, ground := Ground.data }, { on := 10, ground := Ground.data }, { on := 13, ground := Ground.data }], guard := none }) rfl (fun K hK => ?_) AllReadyH.nil
        (go_simp; go_at_call 61; ((with_reducible refine (hIN.out _ ⟨_, rfl⟩).mono ?_); rintro e w2 ⟨va, vn, vc, rfl, ⟨d1, d2, d3⟩, hfin⟩; have d4 := d3.out.cell 0; have d5 := d3.out.cell 1; simp at d4 d5; go_simp))
        refine hK.out _ _ ?_ (fun hHeld => ?_)
        · first
            | exact ⟨hb2, hb3⟩
            | exact ⟨hal2 _ _ _, hal3 _ _ _⟩
            | exact ⟨by assumption, by assumption⟩
            | exact ⟨(World.cell?_setCell_far _ _ _ _ hyg).trans (by assumption), (World.cell?_setCell_far _ _ _ _ hyg).trans (by assumption)⟩
        clear hK K
        try simp only [Act.put, List.setIfInBounds_toArray, List.set_cons_zero, List.set_cons_succ]
        refine wpAnyH_take (i := 17) (oi := { dst := some 66, op := Op.indexAddr 63 (Operand.tmp 65) (Operand.tmp 51), type := 0, pos := "blocks.go:64", after := #[{ on := 16, ground := Ground.data }, { on := 2, ground := Ground.data }, { on := 0, ground := Ground.phase }, { on := 1, ground := Ground.phase }, { on := 2, ground := Ground.phase }, { on := 3, ground := Ground.phase }, { on := 4, ground := Ground.phase }, { on := 5, ground := Ground.phase }, { on := 6, ground := Ground.phase }, { on := 7, ground := Ground.phase }, { on := 8, ground := Ground.phase }, { on := 9, ground := Ground.phase }, { on := 10, ground := Ground.phase }, { on := 11, ground := Ground.phase }, { on := 12, ground := Ground.phase }, { on := 13, ground := Ground.phase }, { on := 14, ground := Ground.phase }], guard := none }) (v := ?_) rfl (by kernel_rfl) (by kernel_rfl) (by kernel_rfl) (fun _ _ _ h => h) (Or.inl ⟨by kernel_rfl, ?_⟩) (by assumption) ?_
        rotate_left
        · (intro w hSw; (try dsimp only at hSw); go_simp; try with_reducible rfl)
        try simp only [Act.put, List.setIfInBounds_toArray, List.set_cons_zero, List.set_cons_succ]
        refine wpAnyH_ready (rs := [18]) (by kernel_rfl) (by simp) ?_
        refine AllReadyH.cons (o := { dst := none, op := Op.store 23 (Operand.tmp 66) (Operand.tmp 63), type := 0, pos := "blocks.go:64", after := #[{ on := 17, ground := Ground.data }, { on := 14, ground := Ground.data }, { on := 14, ground := Ground.chain }, { on := 0, ground := Ground.phase }, { on := 1, ground := Ground.phase }, { on := 2, ground := Ground.phase }, { on := 3, ground := Ground.phase }, { on := 4, ground := Ground.phase }, { on := 5, ground := Ground.phase }, { on := 6, ground := Ground.phase }, { on := 7, ground := Ground.phase }, { on := 8, ground := Ground.phase }, { on := 9, ground := Ground.phase }, { on := 10, ground := Ground.phase }, { on := 11, ground := Ground.phase }, { on := 12, ground := Ground.phase }, { on := 13, ground := Ground.phase }, { on := 14, ground := Ground.phase }], guard := none }) rfl (fun K hK => ?_) AllReadyH.nil
        go_simp
        refine hK.out _ _ ?_ (fun hHeld => ?_)
        · first
            | exact ⟨hb2, hb3⟩
            | exact ⟨hal2 _ _ _, hal3 _ _ _⟩
            | exact ⟨by assumption, by assumption⟩
            | exact ⟨(World.cell?_setCell_far _ _ _ _ hyg).trans (by assumption), (World.cell?_setCell_far _ _ _ _ hyg).trans (by assumption)⟩
        clear hK K
        try simp only [Act.put, List.setIfInBounds_toArray, List.set_cons_zero, List.set_cons_succ]
        refine wpAnyH_done (by kernel_rfl) ?_ _
        go_wp2_with fail
        go_returns
        exact ⟨rfl, insFin (fun k hk => by rw [HOW.out] at hk; exact hk.1) HI.out.2 HC1.out hfin.out⟩
end Go.Proofs.Ytcdlfhheolbhaaa
