/-
  slices.Insert at a board's rows of Held.
  backfill's board.hold.
-/
import Derived.Test.YtioeblljabohbaaBfBs
import Derived.Test.YtioeblljabohbaaSlInsBHeld
import Derived.Handy
import Derived.Deep.DeepCutAuto
namespace Go.Proofs.Ytioeblljabohbaa
set_option linter.unusedVariables false

section
open Go Go.RowKit Go.Lib Go.Sort
theorem heF_app (a b : List HeT) : heF (a ++ b) = heF a ++ heF b := by unfold heF; rw [List.map_append, List.flatMap_append]
theorem heF_cons (x : HeT) (b : List HeT) : heF (x :: b) = heI (heZ x) ++ heF b := rfl
theorem heF_take (l : List HeT) (i : Nat) (h : i ≤ l.length) : (heF l).take (i * 4) = heF (l.take i) := by
  have e : heF l = heF (l.take i) ++ heF (l.drop i) := by rw [← heF_app, List.take_append_drop]
  rw [e, List.take_append_of_le_length (by rw [heF_len, List.length_take]; omega), List.take_of_length_le (by rw [heF_len, List.length_take]; omega)]
theorem heF_drop (l : List HeT) (i : Nat) (h : i ≤ l.length) : (heF l).drop (i * 4) = heF (l.drop i) := by
  have e : heF l = heF (l.take i) ++ heF (l.drop i) := by rw [← heF_app, List.take_append_drop]
  have hl : (heF (l.take i)).length = i * 4 := by rw [heF_len, List.length_take]; congr 1; omega
  rw [e, ← hl, List.drop_left]
def heCs (x : HeT) : Array Value := #[.int .i64 (x.1 : Nat), .int .i64 (x.2.1 : Nat), .int .i64 (x.2.2.1 : Nat), .int .i64 (x.2.2.2 : Nat)]
theorem insH_any (base : Nat) (v : Value) (l : List HeT) (i vb c : Nat) (x : HeT) (w : World) (hi : i ≤ l.length) (hn : l.length ≤ 1048576) (hbase : base ≤ w.heap.size) (hown : HOwn w base v l) (hB : Blk w vb (heCs x) 57) (hvb : some vb ≠ v.ownBlock) :
    Calls Try.prog 67 #[v, .int .i64 i, .slice (some ⟨vb, 0, none⟩) 1 c] w
      fun e w' => ∃ a c', e = .returned (.slice a (l.length + 1) c') ∧ HOwn w' base (.slice a (l.length + 1) c') (l.take i ++ x :: l.drop i) ∧ w.grownBy w' v.ownBlock ∧ AtB w v (.slice a (l.length + 1) c') := by
  have h := insIHeld_any base v l.length i 1 c vb (heCs x) 57 (heF l) (heI (heZ x)) w (by omega) hi (by omega) hbase hown (heF_one _) hB hvb rfl rfl (by intro u hu; simp [heI] at hu; rcases hu with rfl | rfl | rfl | rfl <;> rfl)
  rw [heF_take _ _ hi, heF_drop _ _ hi, List.append_assoc, ← heF_cons, ← heF_app] at h
  refine h.mono fun e w' ⟨v', he, ho, hg, ha⟩ => ?_
  obtain ⟨a, c', rfl⟩ := own_slice ho
  refine ⟨a, c', he, ?_, hg, ha⟩
  have hl : (l.take i ++ x :: l.drop i).length = l.length + 1 := by rw [List.length_append, List.length_cons, List.length_take, List.length_drop]; omega
  show w'.ownsRow base _ 4 _ (l.take i ++ x :: l.drop i).length _
  rw [hl]; exact ho
/-- Another row. -/
structure Ot where
  e : TypeId
  s : Nat
  v : Value
  n : Nat
  xs : List Value
/-- A board, a box beside it, and another row. -/
structure BH (W : World) (bd B0 n : Nat) (vf vF vT : Value) (F T : List HeT) (gB : Nat) (k : HeT) (o : Ot) : Prop where
  b : Blk W bd #[.int .i64 (n : Nat), vf, vF, vT] 85
  lo : B0 ≤ bd
  lg : B0 ≤ gB
  f : HOwn W B0 vF F
  t : HOwn W B0 vT T
  g : Blk W gB (heCs k) 57
  fb : vF.ownBlock ≠ some bd
  tb : vT.ownBlock ≠ some bd
  fg : vF.ownBlock ≠ some gB
  tg : vT.ownBlock ≠ some gB
  ft : ∀ g, vF.ownBlock = some g → vT.ownBlock ≠ some g
  bg : bd ≠ gB
  ow : W.ownsRow B0 o.e o.s o.v o.n o.xs
  ob : o.v.ownBlock ≠ some bd
  og : o.v.ownBlock ≠ some gB
  oF : ∀ g, vF.ownBlock = some g → o.v.ownBlock ≠ some g
  oT : ∀ g, vT.ownBlock = some g → o.v.ownBlock ≠ some g
theorem BH.kept {W W' : World} {bd B0 n : Nat} {vf vF vT : Value} {F T : List HeT} {gB : Nat} {k : HeT} {o : Ot} (h : BH W bd B0 n vf vF vT F T gB k o) (hb : Below W.heap.size W W') : BH W' bd B0 n vf vF vT F T gB k o :=
  ⟨h.b.kept hb, h.lo, h.lg, own_older h.f hb, own_older h.t hb, h.g.kept hb, h.fb, h.tb, h.fg, h.tg, h.ft, h.bg, own_older h.ow hb, h.ob, h.og, h.oF, h.oT⟩
theorem own_set {w : World} {base size n b : Nat} {e : TypeId} {v : Value} {xs : List Value} (h : w.ownsRow base e size v n xs) (hne : v.ownBlock ≠ some b) (o : Nat) (u : Value) : (w.setCell ⟨b, o, none⟩ u).ownsRow base e size v n xs :=
  own_one h (Chg.setCell o u rfl) hne
theorem ob_cases (o : Option Nat) {p : Option Nat → Prop} (h0 : p none) (h1 : ∀ g, o = some g → p (some g)) : p o := by
  cases o with
  | none => exact h0
  | some g => exact h1 g rfl
theorem BH.ins2 {W : World} {bd B0 n : Nat} {vf vF vT : Value} {F T : List HeT} {gB : Nat} {k : HeT} {o : Ot} (h : BH W bd B0 n vf vF vT F T gB k o) {p : Nat} (hp : p ≤ F.length) (hn : F.length ≤ 1024) (w' : World) (hw' : ∃ q, w' = (W.drewN q).alloc (.cells (heCs k) 57)) :
    Calls Try.prog 67 #[vF, .int .i64 (p : Nat), .slice (some ⟨W.heap.size, 0, none⟩) 1 1] w'
      fun e w'' => ∃ va vn vc, e = .returned (.slice va vn vc) ∧ (w''.cell? ⟨bd, 2, none⟩ = some vF ∧ w''.frozen? ⟨bd, 2, none⟩ = false ∧ Hid (Blk w'' gB (heCs k) 57)) ∧
        Hid (BH (w''.setCell ⟨bd, 2, none⟩ (.slice va vn vc)) bd B0 n vf (.slice va vn vc) vT (F.take p ++ k :: F.drop p) T gB k o ∧ Below B0 W (w''.setCell ⟨bd, 2, none⟩ (.slice va vn vc))) := by
  obtain ⟨q, rfl⟩ := hw'
  have hq : Below W.heap.size W (W.drewN q) := below_drewN (Below.refl _ _) _
  have hk : Below W.heap.size W ((W.drewN q).alloc (.cells (heCs k) 57)) := hq.alloc (Nat.le_refl _) _
  have hbW := h.b.lt
  have hgW := h.g.lt
  have hlo := h.lo
  have h' := h.kept hk
  have hsz : W.heap.size ≤ ((W.drewN q).alloc (.cells (heCs k) 57)).heap.size := hk.size
  refine (insH_any B0 vF F p W.heap.size 1 k _ hp (by omega) (by omega) h'.f (Blk.fresh (W.drewN q) _ _ _ rfl) (fun e => by have := (own_ge h.f e.symm).2; omega)).mono ?_
  rintro e w2 ⟨va, vc, rfl, d1, d2, d3⟩
  have hB2 : Blk w2 bd #[.int .i64 (n : Nat), vf, vF, vT] 85 := blk_grown h'.b d2 (Ne.symm h.fb)
  have hG2 : Blk w2 gB (heCs k) 57 := blk_grown h'.g d2 (Ne.symm h.fg)
  have hT2 : HOwn w2 B0 vT T := h'.t.kept d2 (ob_cases vF.ownBlock (p := fun r => vT.ownBlock = none ∨ vT.ownBlock ≠ r) (by cases vT.ownBlock <;> simp) (fun g hg => .inr (h.ft g hg)))
  have hnw : ∀ g, (Value.slice va (F.length + 1) vc).ownBlock = some g → vF.ownBlock = some g ∨ W.heap.size ≤ g := fun g hg => (d3 g hg).imp id (fun h => by omega)
  have hO2 : w2.ownsRow B0 o.e o.s o.v o.n o.xs := h'.ow.kept d2 (ob_cases vF.ownBlock (p := fun r => o.v.ownBlock = none ∨ o.v.ownBlock ≠ r) (by cases o.v.ownBlock <;> simp) (fun g hg => .inr (h.oF g hg)))
  have n4 : ∀ g, (Value.slice va (F.length + 1) vc).ownBlock = some g → o.v.ownBlock ≠ some g := fun g e => (hnw _ e).elim (h.oF g) (fun h1 h2 => by have := (own_ge h.ow h2).2; omega)
  have n1 : (Value.slice va (F.length + 1) vc).ownBlock ≠ some bd := fun e => (hnw _ e).elim h.fb (fun h => by omega)
  have n2 : (Value.slice va (F.length + 1) vc).ownBlock ≠ some gB := fun e => (hnw _ e).elim h.fg (fun h => by omega)
  have n3 : ∀ g, (Value.slice va (F.length + 1) vc).ownBlock = some g → vT.ownBlock ≠ some g := fun g e => (hnw _ e).elim (h.ft g) (fun h1 h2 => by have := (own_ge h.t h2).2; omega)
  refine ⟨va, _, vc, rfl, ⟨hB2.cell 2, hB2.free 2, hG2⟩, ⟨hB2.set 2 _, h.lo, h.lg, own_set d1 n1 2 _, own_set hT2 h.tb 2 _, hG2.other (fun e => h.bg e.symm) _, n1, h.tb, n2, h.tg, n3, h.bg, own_set hO2 h.ob 2 _, h.ob, h.og, n4, h.oT⟩, ?_⟩
  have hb1 : Below B0 W w2 := (hk.mono (by omega)).grown d2 (by omega) (fun j hj => (own_ge h.f hj).1)
  exact hb1.setCell (p := ⟨bd, 2, none⟩) h.lo _
theorem BH.ins3 {W : World} {bd B0 n : Nat} {vf vF vT : Value} {F T : List HeT} {gB : Nat} {k : HeT} {o : Ot} (h : BH W bd B0 n vf vF vT F T gB k o) {p : Nat} (hp : p ≤ T.length) (hn : T.length ≤ 1024) (w' : World) (hw' : ∃ q, w' = (W.drewN q).alloc (.cells (heCs k) 57)) :
    Calls Try.prog 67 #[vT, .int .i64 (p : Nat), .slice (some ⟨W.heap.size, 0, none⟩) 1 1] w'
      fun e w'' => ∃ va vn vc, e = .returned (.slice va vn vc) ∧ (w''.cell? ⟨bd, 3, none⟩ = some vT ∧ w''.frozen? ⟨bd, 3, none⟩ = false ∧ Hid (Blk w'' gB (heCs k) 57)) ∧
        Hid (BH (w''.setCell ⟨bd, 3, none⟩ (.slice va vn vc)) bd B0 n vf vF (.slice va vn vc) F (T.take p ++ k :: T.drop p) gB k o ∧ Below B0 W (w''.setCell ⟨bd, 3, none⟩ (.slice va vn vc))) := by
  obtain ⟨q, rfl⟩ := hw'
  have hq : Below W.heap.size W (W.drewN q) := below_drewN (Below.refl _ _) _
  have hk : Below W.heap.size W ((W.drewN q).alloc (.cells (heCs k) 57)) := hq.alloc (Nat.le_refl _) _
  have hbW := h.b.lt
  have hgW := h.g.lt
  have hlo := h.lo
  have h' := h.kept hk
  have hsz : W.heap.size ≤ ((W.drewN q).alloc (.cells (heCs k) 57)).heap.size := hk.size
  refine (insH_any B0 vT T p W.heap.size 1 k _ hp (by omega) (by omega) h'.t (Blk.fresh (W.drewN q) _ _ _ rfl) (fun e => by have := (own_ge h.t e.symm).2; omega)).mono ?_
  rintro e w2 ⟨va, vc, rfl, d1, d2, d3⟩
  have hB2 : Blk w2 bd #[.int .i64 (n : Nat), vf, vF, vT] 85 := blk_grown h'.b d2 (Ne.symm h.tb)
  have hG2 : Blk w2 gB (heCs k) 57 := blk_grown h'.g d2 (Ne.symm h.tg)
  have hF2 : HOwn w2 B0 vF F := h'.f.kept d2 (ob_cases vT.ownBlock (p := fun r => vF.ownBlock = none ∨ vF.ownBlock ≠ r) (by cases vF.ownBlock <;> simp) (fun g hg => .inr (fun e => h.ft g e hg)))
  have hnw : ∀ g, (Value.slice va (T.length + 1) vc).ownBlock = some g → vT.ownBlock = some g ∨ W.heap.size ≤ g := fun g hg => (d3 g hg).imp id (fun h => by omega)
  have hO2 : w2.ownsRow B0 o.e o.s o.v o.n o.xs := h'.ow.kept d2 (ob_cases vT.ownBlock (p := fun r => o.v.ownBlock = none ∨ o.v.ownBlock ≠ r) (by cases o.v.ownBlock <;> simp) (fun g hg => .inr (h.oT g hg)))
  have n4 : ∀ g, (Value.slice va (T.length + 1) vc).ownBlock = some g → o.v.ownBlock ≠ some g := fun g e => (hnw _ e).elim (h.oT g) (fun h1 h2 => by have := (own_ge h.ow h2).2; omega)
  have n1 : (Value.slice va (T.length + 1) vc).ownBlock ≠ some bd := fun e => (hnw _ e).elim h.tb (fun h => by omega)
  have n2 : (Value.slice va (T.length + 1) vc).ownBlock ≠ some gB := fun e => (hnw _ e).elim h.tg (fun h => by omega)
  have n3 : ∀ g, vF.ownBlock = some g → (Value.slice va (T.length + 1) vc).ownBlock ≠ some g := fun g e e2 => (hnw _ e2).elim (h.ft g e) (fun h1 => by have := (own_ge h.f e).2; omega)
  refine ⟨va, _, vc, rfl, ⟨hB2.cell 3, hB2.free 3, hG2⟩, ⟨hB2.set 3 _, h.lo, h.lg, own_set hF2 h.fb 3 _, own_set d1 n1 3 _, hG2.other (fun e => h.bg e.symm) _, h.fb, n1, h.fg, n2, n3, h.bg, own_set hO2 h.ob 3 _, h.ob, h.og, h.oF, n4⟩, ?_⟩
  have hb1 : Below B0 W w2 := (hk.mono (by omega)).grown d2 (by omega) (fun j hj => (own_ge h.t hj).1)
  exact hb1.setCell (p := ⟨bd, 3, none⟩) h.lo _
end

section
open Go Go.RowKit Go.Lib Go.Sort
theorem permIn (F : List HeT) (p : Nat) (k : HeT) : (F.take p ++ k :: F.drop p).Perm (k :: F) := by
  have h := List.perm_middle (a := k) (l₁ := F.take p) (l₂ := F.drop p)
  rwa [List.take_append_drop] at h
set_option maxRecDepth 100000 in
set_option maxHeartbeats 8000000 in
theorem hold_any (bd B0 n : Nat) (vf vF vT : Value) (F T : List HeT) (k : HeT) (w : World) (hb : Blk w bd #[.int .i64 (n : Nat), vf, vF, vT] 85) (hlo : B0 ≤ bd) (hf : HOwn w B0 vF F) (ht : HOwn w B0 vT T)
    (h6 : vF.ownBlock ≠ some bd) (h7 : vT.ownBlock ≠ some bd) (h8 : ∀ g, vF.ownBlock = some g → vT.ownBlock ≠ some g) (o : Ot) (ow : w.ownsRow B0 o.e o.s o.v o.n o.xs) (ob : o.v.ownBlock ≠ some bd) (oF : ∀ g, vF.ownBlock = some g → o.v.ownBlock ≠ some g) (oT : ∀ g, vT.ownBlock = some g → o.v.ownBlock ≠ some g) (hFn : F.length ≤ 1024) (hTn : T.length ≤ 1024) (sF : SortedF F) (sT : SortedT T) :
    Calls Try.prog 60 #[.pointer (some ⟨bd, 0, none⟩), .agg #[.int .i64 (k.1 : Nat), .int .i64 (k.2.1 : Nat), .int .i64 (k.2.2.1 : Nat), .int .i64 (k.2.2.2 : Nat)]] w fun e w' => e = .returned (.tuple #[]) ∧ ∃ vF' vT' F' T', Blk w' bd #[.int .i64 (n : Nat), vf, vF', vT'] 85 ∧ HOwn w' B0 vF' F' ∧ HOwn w' B0 vT' T' ∧
      vF'.ownBlock ≠ some bd ∧ vT'.ownBlock ≠ some bd ∧ (∀ g, vF'.ownBlock = some g → vT'.ownBlock ≠ some g) ∧ F'.Perm (k :: F) ∧ T'.Perm (k :: T) ∧ SortedF F' ∧ SortedT T' ∧ Below B0 w w' ∧ (w'.ownsRow B0 o.e o.s o.v o.n o.xs ∧ (∀ g, vF'.ownBlock = some g → o.v.ownBlock ≠ some g) ∧ ∀ g, vT'.ownBlock = some g → o.v.ownBlock ≠ some g) := by
  obtain ⟨gB, hgB⟩ : ∃ g, g = w.heap.size := ⟨_, rfl⟩
  obtain ⟨W, hW⟩ : ∃ W, W = w.alloc (.cells (heCs k) 57) := ⟨_, rfl⟩
  have hbW : Below w.heap.size w W := by rw [hW]; exact (Below.refl _ _).alloc (Nat.le_refl _) _
  have hbl := hb.lt
  have hBH : BH W bd B0 n vf vF vT F T gB k o := ⟨hb.kept hbW, hlo, by omega, own_older hf hbW, own_older ht hbW, by rw [hW, hgB]; exact Blk.new _ _ _, h6, h7, fun e => by have := (own_ge hf e).2; omega, fun e => by have := (own_ge ht e).2; omega, h8, by omega, own_older ow hbW, ob, fun e => by have := (own_ge ow e).2; omega, oF, oT⟩
  have HBW : Hid (Below B0 w W) := hbW.mono (by omega)
  have HBH := Lib.hid hBH
  have BSF : Hid (∀ w', Below W.heap.size W w' → _) := fun w' h => bsFr_any vF F k w' (by omega) (hrow_of_own (own_older hBH.f h)) sF
  have HFN := Lib.hid hFn
  have HTN := Lib.hid hTn
  have HST := Lib.hid sT
  clear hb hlo hf ht h6 h7 h8 ow ob oF oT hFn hTn sF sT hbl hbW hBH
  unfold heCs at hW
  obtain ⟨k1, k2, k3, k4⟩ := k
  dsimp only at hW BSF ⊢
  have b2 := HBH.out.b.cell 2
  have g0 := HBH.out.g.cell 0
  have g1 := HBH.out.g.cell 1
  have g2 := HBH.out.g.cell 2
  have g3 := HBH.out.g.cell 3
  simp [heCs] at b2 g0 g1 g2 g3
  go_enter Try.func60, Try.ntmps60
  go_upto_region 1 with fail
  rw [← hW, ← hgB]
  clear hW hgB
  go_cut [4] (fun pv wx => ∃ p : Nat, pv = .int .i64 p ∧ Hid (p ≤ F.length) ∧ Hid (SortedF (F.take p ++ (k1, k2, k3, k4) :: F.drop p)) ∧ Hid (Below W.heap.size W wx))
  case first =>
    go_region_held3 (fun w' => w'.cell? ⟨bd, 2, none⟩ = some vF ∧ w'.cell? ⟨gB, 0, none⟩ = some (.int .i64 (k1 : Nat)) ∧ w'.cell? ⟨gB, 1, none⟩ = some (.int .i64 (k2 : Nat)) ∧ w'.cell? ⟨gB, 2, none⟩ = some (.int .i64 (k3 : Nat)) ∧ w'.cell? ⟨gB, 3, none⟩ = some (.int .i64 (k4 : Nat)) ∧ Below W.heap.size W w')
      (first
        | exact ⟨b2, g0, g1, g2, g3, Below.refl _ _⟩
        | exact ⟨b2, g0, g1, g2, g3, (Below.refl _ _).drew⟩
        | (rcases ‹_ ∧ _ ∧ _ ∧ _ ∧ _ ∧ Below W.heap.size _ _› with ⟨q0, q1, q2, q3, q4, q5⟩; exact ⟨cell_next (by assumption) q0, cell_next (by assumption) q1, cell_next (by assumption) q2, cell_next (by assumption) q3, cell_next (by assumption) q4, below_next (by assumption) q5⟩))
      (first
        | (go_at_call 66; ((with_reducible refine (BSF.out _ (‹_ ∧ _ ∧ _ ∧ _ ∧ _ ∧ Below W.heap.size W _›).2.2.2.2.2).mono ?_); rintro e w2 ⟨p, fq, rfl, hp, hs, b2⟩; have hp := Lib.hid hp; have hs := Lib.hid hs)))
    go_wp2_with fail
    go_meet
    exact ⟨_, rfl, ‹Hid (_ ≤ F.length)›, ‹Hid (SortedF _)›, (‹_ ∧ _ ∧ _ ∧ _ ∧ _ ∧ Below W.heap.size W _›).2.2.2.2.2⟩
  case rest =>
    obtain ⟨p, rfl, HP, HS, HB1⟩ := hcut
    have HBH1 := Lib.hid (HBH.out.kept HB1.out)
    have hIN : Hid (∀ w', (∃ q, w' = (wc.drewN q).alloc (.cells #[.int .i64 (k1 : Nat), .int .i64 (k2 : Nat), .int .i64 (k3 : Nat), .int .i64 (k4 : Nat)] 57)) → Calls Try.prog 67 #[vF, .int .i64 (p : Nat), .slice (some ⟨wc.heap.size, 0, none⟩) 1 1] w'
      fun e w'' => ∃ va vn vc, e = .returned (.slice va vn vc) ∧ (w''.cell? ⟨bd, 2, none⟩ = some vF ∧ w''.frozen? ⟨bd, 2, none⟩ = false ∧ Hid (Blk w'' gB (heCs (k1, k2, k3, k4)) 57)) ∧
        Hid (BH (w''.setCell ⟨bd, 2, none⟩ (.slice va vn vc)) bd B0 n vf (.slice va vn vc) vT (F.take p ++ (k1, k2, k3, k4) :: F.drop p) T gB (k1, k2, k3, k4) o ∧ Below B0 wc (w''.setCell ⟨bd, 2, none⟩ (.slice va vn vc)))) := fun w' h => HBH1.out.ins2 HP.out HFN.out w' h
    have hv := HBH1.out.b.cell 2
    have hg0 := HBH1.out.g.cell 0
    have hg1 := HBH1.out.g.cell 1
    have hg2 := HBH1.out.g.cell 2
    have hg3 := HBH1.out.g.cell 3
    simp [heCs] at hv hg0 hg1 hg2 hg3
    have hyg : bd ≠ gB := HBH1.out.bg
    have hal : ∀ q C t, Below wc.heap.size wc ((wc.drewN q).alloc (.cells C t)) := fun q C t => (below_drewN (Below.refl _ _) q).alloc (Nat.le_refl _) _
    have hbl1 : ∀ q C t, ((wc.drewN q).alloc (.cells C t)).cell? ⟨bd, 2, none⟩ = some vF := fun q C t => cell_next (w2 := (wc.drewN q).alloc (.cells C t)) (hal q C t) hv
    have hbl2 : ∀ q C t, ((wc.drewN q).alloc (.cells C t)).cell? ⟨gB, 0, none⟩ = some (.int .i64 (k1 : Nat)) := fun q C t => cell_next (w2 := (wc.drewN q).alloc (.cells C t)) (hal q C t) hg0
    have hbl3 : ∀ q C t, ((wc.drewN q).alloc (.cells C t)).cell? ⟨gB, 1, none⟩ = some (.int .i64 (k2 : Nat)) := fun q C t => cell_next (w2 := (wc.drewN q).alloc (.cells C t)) (hal q C t) hg1
    have hbl4 : ∀ q C t, ((wc.drewN q).alloc (.cells C t)).cell? ⟨gB, 2, none⟩ = some (.int .i64 (k3 : Nat)) := fun q C t => cell_next (w2 := (wc.drewN q).alloc (.cells C t)) (hal q C t) hg2
    have hbl5 : ∀ q C t, ((wc.drewN q).alloc (.cells C t)).cell? ⟨gB, 3, none⟩ = some (.int .i64 (k4 : Nat)) := fun q C t => cell_next (w2 := (wc.drewN q).alloc (.cells C t)) (hal q C t) hg3
    have hbl6 : ∀ C t, (wc.alloc (.cells C t)).cell? ⟨bd, 2, none⟩ = some vF := fun C t => hbl1 0 C t
    have hW3 : ∃ q, (wc.alloc (.cells #[.int .i64 (k1 : Nat), .int .i64 (k2 : Nat), .int .i64 (k3 : Nat), .int .i64 (k4 : Nat)] 57)).drew = (wc.drewN q).alloc (.cells #[.int .i64 (k1 : Nat), .int .i64 (k2 : Nat), .int .i64 (k3 : Nat), .int .i64 (k4 : Nat)] 57) := ⟨1, rfl⟩
    clear b2 g0 g1 g2 g3 BSF
    go_upto_region 2 with fail
    go_cut [] (fun wx => ∃ va vn vc, Hid (BH wx bd B0 n vf (.slice va vn vc) vT (F.take p ++ (k1, k2, k3, k4) :: F.drop p) T gB (k1, k2, k3, k4) o) ∧ Hid (Below B0 wc wx))
    case first =>
      refine wp_region_held_drew (S := (fun w' => w'.cell? ⟨gB, 0, none⟩ = some (.int .i64 (k1 : Nat)) ∧ w'.cell? ⟨gB, 1, none⟩ = some (.int .i64 (k2 : Nat)) ∧ w'.cell? ⟨gB, 2, none⟩ = some (.int .i64 (k3 : Nat)) ∧ w'.cell? ⟨gB, 3, none⟩ = some (.int .i64 (k4 : Nat)))) (by kernel_rfl) (by
        first
          | exact ⟨hg0, hg1, hg2, hg3⟩
          | exact ⟨hbl2 _ _ _, hbl3 _ _ _, hbl4 _ _ _, hbl5 _ _ _⟩
          | exact ⟨hbl2 0 _ _, hbl3 0 _ _, hbl4 0 _ _, hbl5 0 _ _⟩
          | exact ⟨by assumption, by assumption, by assumption, by assumption⟩
          | exact ⟨(World.cell?_setCell_far _ _ _ _ hyg).trans (by assumption), (World.cell?_setCell_far _ _ _ _ hyg).trans (by assumption), (World.cell?_setCell_far _ _ _ _ hyg).trans (by assumption), (World.cell?_setCell_far _ _ _ _ hyg).trans (by assumption)⟩
        ) (fun hHeld => ?_)
      refine wpAnyH_take (i := 0) (oi := { dst := some 15, op := Op.move (Operand.tmp 0), type := 70, pos := "board.go:36", after := #[], guard := none }) (v := ?_) rfl (by kernel_rfl) (by kernel_rfl) (by kernel_rfl) (fun _ _ _ h => h) (Or.inl ⟨by kernel_rfl, ?_⟩) (by assumption) ?_
      rotate_left
      · (intro w hSw; (try dsimp only at hSw); go_simp; try with_reducible rfl)
      try simp only [Act.put, List.setIfInBounds_toArray, List.set_cons_zero, List.set_cons_succ]
      refine wpAnyH_take (i := 1) (oi := { dst := some 16, op := Op.move (Operand.tmp 0), type := 70, pos := "board.go:36", after := #[], guard := none }) (v := ?_) rfl (by kernel_rfl) (by kernel_rfl) (by kernel_rfl) (fun _ _ _ h => h) (Or.inl ⟨by kernel_rfl, ?_⟩) (by assumption) ?_
      rotate_left
      · (intro w hSw; (try dsimp only at hSw); go_simp; try with_reducible rfl)
      try simp only [Act.put, List.setIfInBounds_toArray, List.set_cons_zero, List.set_cons_succ]
      refine wpAnyH_take (i := 2) (oi := { dst := some 17, op := Op.nilCheck (Operand.tmp 16), type := 0, pos := "board.go:36", after := #[{ on := 1, ground := Ground.data }], guard := none }) (v := ?_) rfl (by kernel_rfl) (by kernel_rfl) (by kernel_rfl) (fun _ _ _ h => h) (Or.inl ⟨by kernel_rfl, ?_⟩) (by assumption) ?_
      rotate_left
      · (intro w hSw; (try dsimp only at hSw); go_simp; try with_reducible rfl)
      try simp only [Act.put, List.setIfInBounds_toArray, List.set_cons_zero, List.set_cons_succ]
      refine wpAnyH_take (i := 3) (oi := { dst := some 18, op := Op.fieldAddr 85 (Operand.tmp 17) 2, type := 0, pos := "board.go:36", after := #[{ on := 2, ground := Ground.data }], guard := none }) (v := ?_) rfl (by kernel_rfl) (by kernel_rfl) (by kernel_rfl) (fun _ _ _ h => h) (Or.inl ⟨by kernel_rfl, ?_⟩) (by assumption) ?_
      rotate_left
      · (intro w hSw; (try dsimp only at hSw); go_simp; try with_reducible rfl)
      try simp only [Act.put, List.setIfInBounds_toArray, List.set_cons_zero, List.set_cons_succ]
      refine wpAnyH_take (i := 5) (oi := { dst := some 20, op := Op.move (Operand.tmp 4), type := 3, pos := "board.go:36", after := #[], guard := none }) (v := ?_) rfl (by kernel_rfl) (by kernel_rfl) (by kernel_rfl) (fun _ _ _ h => h) (Or.inl ⟨by kernel_rfl, ?_⟩) (by assumption) ?_
      rotate_left
      · (intro w hSw; (try dsimp only at hSw); go_simp; try with_reducible rfl)
      try simp only [Act.put, List.setIfInBounds_toArray, List.set_cons_zero, List.set_cons_succ]
      refine wpAnyH_take (i := 6) (oi := { dst := some 21, op := Op.load 57 (Operand.tmp 3), type := 57, pos := "board.go:36", after := #[], guard := none }) (v := ?_) rfl (by kernel_rfl) (by kernel_rfl) (by kernel_rfl) (fun _ _ _ h => h) (Or.inl ⟨by kernel_rfl, ?_⟩) (by assumption) ?_
      rotate_left
      · (intro w hSw; (try dsimp only at hSw); go_simp; try with_reducible rfl)
      try simp only [Act.put, List.setIfInBounds_toArray, List.set_cons_zero, List.set_cons_succ]
      refine wpAnyH_ready (rs := [4, 7]) (by kernel_rfl) (by simp) ?_
      refine AllReadyH.cons (o := { dst := some 19, op := Op.load 23 (Operand.tmp 18), type := 23, pos := "board.go:36", after := #[{ on := 3, ground := Ground.data }], guard := none }) rfl (fun K hK => ?_) (AllReadyH.cons (o := { dst := some 22, op := Op.buildSlice 23 1 #[(0, Operand.tmp 21)], type := 23, pos := "board.go:36", after := #[{ on := 6, ground := Ground.data }], guard := none }) rfl (fun K hK => ?_) AllReadyH.nil)
      rotate_left
      · go_simp
        refine hK.out _ _ ?_ (fun hHeld => ?_)
        · first
            | exact ⟨hg0, hg1, hg2, hg3⟩
            | exact ⟨hbl2 _ _ _, hbl3 _ _ _, hbl4 _ _ _, hbl5 _ _ _⟩
            | exact ⟨hbl2 0 _ _, hbl3 0 _ _, hbl4 0 _ _, hbl5 0 _ _⟩
            | exact ⟨by assumption, by assumption, by assumption, by assumption⟩
            | exact ⟨(World.cell?_setCell_far _ _ _ _ hyg).trans (by assumption), (World.cell?_setCell_far _ _ _ _ hyg).trans (by assumption), (World.cell?_setCell_far _ _ _ _ hyg).trans (by assumption), (World.cell?_setCell_far _ _ _ _ hyg).trans (by assumption)⟩
        clear hK K
        try simp only [Act.put, List.setIfInBounds_toArray, List.set_cons_zero, List.set_cons_succ]
        refine wpAnyH_ready (rs := [4]) (by kernel_rfl) (by simp) ?_
        refine AllReadyH.cons (o := { dst := some 19, op := Op.load 23 (Operand.tmp 18), type := 23, pos := "board.go:36", after := #[{ on := 3, ground := Ground.data }], guard := none }) rfl (fun K hK => ?_) AllReadyH.nil
        go_simp
        refine hK.out _ _ ?_ (fun hHeld => ?_)
        · first
            | exact ⟨hg0, hg1, hg2, hg3⟩
            | exact ⟨hbl2 _ _ _, hbl3 _ _ _, hbl4 _ _ _, hbl5 _ _ _⟩
            | exact ⟨hbl2 0 _ _, hbl3 0 _ _, hbl4 0 _ _, hbl5 0 _ _⟩
            | exact ⟨by assumption, by assumption, by assumption, by assumption⟩
            | exact ⟨(World.cell?_setCell_far _ _ _ _ hyg).trans (by assumption), (World.cell?_setCell_far _ _ _ _ hyg).trans (by assumption), (World.cell?_setCell_far _ _ _ _ hyg).trans (by assumption), (World.cell?_setCell_far _ _ _ _ hyg).trans (by assumption)⟩
        clear hK K
        try simp only [Act.put, List.setIfInBounds_toArray, List.set_cons_zero, List.set_cons_succ]
        refine wpAnyH_ready (rs := [8]) (by kernel_rfl) (by simp) ?_
        refine AllReadyH.cons (o := { dst := some 23, op := Op.call { callee := Callee.value (Operand.func 67), args := #[Operand.tmp 19, Operand.tmp 20, Operand.tmp 22], argTypes := #[23, 3, 23] }, type := 23, pos := "board.go:36", after := #[{ on := 4, ground := Ground.data }, { on := 5, ground := Ground.data }, { on := 7, ground := Ground.data }], guard := none }) rfl (fun K hK => ?_) AllReadyH.nil
        (go_simp; go_at_call 67; ((with_reducible refine (hIN.out _ hW3).mono ?_); rintro e w2 ⟨va, vn, vc, rfl, ⟨d1, d2, d3⟩, hfin⟩; have d4 := d3.out.cell 0; have d5 := d3.out.cell 1; have d6 := d3.out.cell 2; have d7 := d3.out.cell 3; simp [heCs] at d4 d5 d6 d7; go_simp))
        refine hK.out _ _ ?_ (fun hHeld => ?_)
        · first
            | exact ⟨hg0, hg1, hg2, hg3⟩
            | exact ⟨hbl2 _ _ _, hbl3 _ _ _, hbl4 _ _ _, hbl5 _ _ _⟩
            | exact ⟨hbl2 0 _ _, hbl3 0 _ _, hbl4 0 _ _, hbl5 0 _ _⟩
            | exact ⟨by assumption, by assumption, by assumption, by assumption⟩
            | exact ⟨(World.cell?_setCell_far _ _ _ _ hyg).trans (by assumption), (World.cell?_setCell_far _ _ _ _ hyg).trans (by assumption), (World.cell?_setCell_far _ _ _ _ hyg).trans (by assumption), (World.cell?_setCell_far _ _ _ _ hyg).trans (by assumption)⟩
        clear hK K
        try simp only [Act.put, List.setIfInBounds_toArray, List.set_cons_zero, List.set_cons_succ]
        refine wpAnyH_take (i := 9) (oi := { dst := some 24, op := Op.nilCheck (Operand.tmp 15), type := 0, pos := "board.go:36", after := #[{ on := 0, ground := Ground.data }, { on := 0, ground := Ground.phase }, { on := 1, ground := Ground.phase }, { on := 2, ground := Ground.phase }, { on := 3, ground := Ground.phase }, { on := 4, ground := Ground.phase }, { on := 5, ground := Ground.phase }, { on := 6, ground := Ground.phase }, { on := 7, ground := Ground.phase }, { on := 8, ground := Ground.phase }], guard := none }) (v := ?_) rfl (by kernel_rfl) (by kernel_rfl) (by kernel_rfl) (fun _ _ _ h => h) (Or.inl ⟨by kernel_rfl, ?_⟩) (by assumption) ?_
        rotate_left
        · (intro w hSw; (try dsimp only at hSw); go_simp; try with_reducible rfl)
        try simp only [Act.put, List.setIfInBounds_toArray, List.set_cons_zero, List.set_cons_succ]
        refine wpAnyH_take (i := 10) (oi := { dst := some 25, op := Op.fieldAddr 85 (Operand.tmp 24) 2, type := 0, pos := "board.go:36", after := #[{ on := 9, ground := Ground.data }, { on := 0, ground := Ground.phase }, { on := 1, ground := Ground.phase }, { on := 2, ground := Ground.phase }, { on := 3, ground := Ground.phase }, { on := 4, ground := Ground.phase }, { on := 5, ground := Ground.phase }, { on := 6, ground := Ground.phase }, { on := 7, ground := Ground.phase }, { on := 8, ground := Ground.phase }], guard := none }) (v := ?_) rfl (by kernel_rfl) (by kernel_rfl) (by kernel_rfl) (fun _ _ _ h => h) (Or.inl ⟨by kernel_rfl, ?_⟩) (by assumption) ?_
        rotate_left
        · (intro w hSw; (try dsimp only at hSw); go_simp; try with_reducible rfl)
        try simp only [Act.put, List.setIfInBounds_toArray, List.set_cons_zero, List.set_cons_succ]
        refine wpAnyH_ready (rs := [11]) (by kernel_rfl) (by simp) ?_
        refine AllReadyH.cons (o := { dst := none, op := Op.store 23 (Operand.tmp 25) (Operand.tmp 23), type := 0, pos := "board.go:36", after := #[{ on := 10, ground := Ground.data }, { on := 8, ground := Ground.data }, { on := 8, ground := Ground.chain }, { on := 0, ground := Ground.phase }, { on := 1, ground := Ground.phase }, { on := 2, ground := Ground.phase }, { on := 3, ground := Ground.phase }, { on := 4, ground := Ground.phase }, { on := 5, ground := Ground.phase }, { on := 6, ground := Ground.phase }, { on := 7, ground := Ground.phase }, { on := 8, ground := Ground.phase }], guard := none }) rfl (fun K hK => ?_) AllReadyH.nil
        go_simp
        refine hK.out _ _ ?_ (fun hHeld => ?_)
        · first
            | exact ⟨hg0, hg1, hg2, hg3⟩
            | exact ⟨hbl2 _ _ _, hbl3 _ _ _, hbl4 _ _ _, hbl5 _ _ _⟩
            | exact ⟨hbl2 0 _ _, hbl3 0 _ _, hbl4 0 _ _, hbl5 0 _ _⟩
            | exact ⟨by assumption, by assumption, by assumption, by assumption⟩
            | exact ⟨(World.cell?_setCell_far _ _ _ _ hyg).trans (by assumption), (World.cell?_setCell_far _ _ _ _ hyg).trans (by assumption), (World.cell?_setCell_far _ _ _ _ hyg).trans (by assumption), (World.cell?_setCell_far _ _ _ _ hyg).trans (by assumption)⟩
        clear hK K
        try simp only [Act.put, List.setIfInBounds_toArray, List.set_cons_zero, List.set_cons_succ]
        refine wpAnyH_done (by kernel_rfl) ?_ _
        go_wp2_with fail
        go_meet
        exact ⟨va, vn, vc, hfin.out.1, hfin.out.2⟩
      · go_simp
        refine hK.out _ _ ?_ (fun hHeld => ?_)
        · first
            | exact ⟨hg0, hg1, hg2, hg3⟩
            | exact ⟨hbl2 _ _ _, hbl3 _ _ _, hbl4 _ _ _, hbl5 _ _ _⟩
            | exact ⟨hbl2 0 _ _, hbl3 0 _ _, hbl4 0 _ _, hbl5 0 _ _⟩
            | exact ⟨by assumption, by assumption, by assumption, by assumption⟩
            | exact ⟨(World.cell?_setCell_far _ _ _ _ hyg).trans (by assumption), (World.cell?_setCell_far _ _ _ _ hyg).trans (by assumption), (World.cell?_setCell_far _ _ _ _ hyg).trans (by assumption), (World.cell?_setCell_far _ _ _ _ hyg).trans (by assumption)⟩
        clear hK K
        try simp only [Act.put, List.setIfInBounds_toArray, List.set_cons_zero, List.set_cons_succ]
        refine wpAnyH_ready (rs := [7]) (by kernel_rfl) (by simp) ?_
        refine AllReadyH.cons (o := { dst := some 22, op := Op.buildSlice 23 1 #[(0, Operand.tmp 21)], type := 23, pos := "board.go:36", after := #[{ on := 6, ground := Ground.data }], guard := none }) rfl (fun K hK => ?_) AllReadyH.nil
        go_simp
        refine hK.out _ _ ?_ (fun hHeld => ?_)
        · first
            | exact ⟨hg0, hg1, hg2, hg3⟩
            | exact ⟨hbl2 _ _ _, hbl3 _ _ _, hbl4 _ _ _, hbl5 _ _ _⟩
            | exact ⟨hbl2 0 _ _, hbl3 0 _ _, hbl4 0 _ _, hbl5 0 _ _⟩
            | exact ⟨by assumption, by assumption, by assumption, by assumption⟩
            | exact ⟨(World.cell?_setCell_far _ _ _ _ hyg).trans (by assumption), (World.cell?_setCell_far _ _ _ _ hyg).trans (by assumption), (World.cell?_setCell_far _ _ _ _ hyg).trans (by assumption), (World.cell?_setCell_far _ _ _ _ hyg).trans (by assumption)⟩
        clear hK K
        try simp only [Act.put, List.setIfInBounds_toArray, List.set_cons_zero, List.set_cons_succ]
        refine wpAnyH_ready (rs := [8]) (by kernel_rfl) (by simp) ?_
        refine AllReadyH.cons (o := { dst := some 23, op := Op.call { callee := Callee.value (Operand.func 67), args := #[Operand.tmp 19, Operand.tmp 20, Operand.tmp 22], argTypes := #[23, 3, 23] }, type := 23, pos := "board.go:36", after := #[{ on := 4, ground := Ground.data }, { on := 5, ground := Ground.data }, { on := 7, ground := Ground.data }], guard := none }) rfl (fun K hK => ?_) AllReadyH.nil
        (go_simp; go_at_call 67; ((with_reducible refine (hIN.out _ hW3).mono ?_); rintro e w2 ⟨va, vn, vc, rfl, ⟨d1, d2, d3⟩, hfin⟩; have d4 := d3.out.cell 0; have d5 := d3.out.cell 1; have d6 := d3.out.cell 2; have d7 := d3.out.cell 3; simp [heCs] at d4 d5 d6 d7; go_simp))
        refine hK.out _ _ ?_ (fun hHeld => ?_)
        · first
            | exact ⟨hg0, hg1, hg2, hg3⟩
            | exact ⟨hbl2 _ _ _, hbl3 _ _ _, hbl4 _ _ _, hbl5 _ _ _⟩
            | exact ⟨hbl2 0 _ _, hbl3 0 _ _, hbl4 0 _ _, hbl5 0 _ _⟩
            | exact ⟨by assumption, by assumption, by assumption, by assumption⟩
            | exact ⟨(World.cell?_setCell_far _ _ _ _ hyg).trans (by assumption), (World.cell?_setCell_far _ _ _ _ hyg).trans (by assumption), (World.cell?_setCell_far _ _ _ _ hyg).trans (by assumption), (World.cell?_setCell_far _ _ _ _ hyg).trans (by assumption)⟩
        clear hK K
        try simp only [Act.put, List.setIfInBounds_toArray, List.set_cons_zero, List.set_cons_succ]
        refine wpAnyH_take (i := 9) (oi := { dst := some 24, op := Op.nilCheck (Operand.tmp 15), type := 0, pos := "board.go:36", after := #[{ on := 0, ground := Ground.data }, { on := 0, ground := Ground.phase }, { on := 1, ground := Ground.phase }, { on := 2, ground := Ground.phase }, { on := 3, ground := Ground.phase }, { on := 4, ground := Ground.phase }, { on := 5, ground := Ground.phase }, { on := 6, ground := Ground.phase }, { on := 7, ground := Ground.phase }, { on := 8, ground := Ground.phase }], guard := none }) (v := ?_) rfl (by kernel_rfl) (by kernel_rfl) (by kernel_rfl) (fun _ _ _ h => h) (Or.inl ⟨by kernel_rfl, ?_⟩) (by assumption) ?_
        rotate_left
        · (intro w hSw; (try dsimp only at hSw); go_simp; try with_reducible rfl)
        try simp only [Act.put, List.setIfInBounds_toArray, List.set_cons_zero, List.set_cons_succ]
        refine wpAnyH_take (i := 10) (oi := { dst := some 25, op := Op.fieldAddr 85 (Operand.tmp 24) 2, type := 0, pos := "board.go:36", after := #[{ on := 9, ground := Ground.data }, { on := 0, ground := Ground.phase }, { on := 1, ground := Ground.phase }, { on := 2, ground := Ground.phase }, { on := 3, ground := Ground.phase }, { on := 4, ground := Ground.phase }, { on := 5, ground := Ground.phase }, { on := 6, ground := Ground.phase }, { on := 7, ground := Ground.phase }, { on := 8, ground := Ground.phase }], guard := none }) (v := ?_) rfl (by kernel_rfl) (by kernel_rfl) (by kernel_rfl) (fun _ _ _ h => h) (Or.inl ⟨by kernel_rfl, ?_⟩) (by assumption) ?_
        rotate_left
        · (intro w hSw; (try dsimp only at hSw); go_simp; try with_reducible rfl)
        try simp only [Act.put, List.setIfInBounds_toArray, List.set_cons_zero, List.set_cons_succ]
        refine wpAnyH_ready (rs := [11]) (by kernel_rfl) (by simp) ?_
        refine AllReadyH.cons (o := { dst := none, op := Op.store 23 (Operand.tmp 25) (Operand.tmp 23), type := 0, pos := "board.go:36", after := #[{ on := 10, ground := Ground.data }, { on := 8, ground := Ground.data }, { on := 8, ground := Ground.chain }, { on := 0, ground := Ground.phase }, { on := 1, ground := Ground.phase }, { on := 2, ground := Ground.phase }, { on := 3, ground := Ground.phase }, { on := 4, ground := Ground.phase }, { on := 5, ground := Ground.phase }, { on := 6, ground := Ground.phase }, { on := 7, ground := Ground.phase }, { on := 8, ground := Ground.phase }], guard := none }) rfl (fun K hK => ?_) AllReadyH.nil
        go_simp
        refine hK.out _ _ ?_ (fun hHeld => ?_)
        · first
            | exact ⟨hg0, hg1, hg2, hg3⟩
            | exact ⟨hbl2 _ _ _, hbl3 _ _ _, hbl4 _ _ _, hbl5 _ _ _⟩
            | exact ⟨hbl2 0 _ _, hbl3 0 _ _, hbl4 0 _ _, hbl5 0 _ _⟩
            | exact ⟨by assumption, by assumption, by assumption, by assumption⟩
            | exact ⟨(World.cell?_setCell_far _ _ _ _ hyg).trans (by assumption), (World.cell?_setCell_far _ _ _ _ hyg).trans (by assumption), (World.cell?_setCell_far _ _ _ _ hyg).trans (by assumption), (World.cell?_setCell_far _ _ _ _ hyg).trans (by assumption)⟩
        clear hK K
        try simp only [Act.put, List.setIfInBounds_toArray, List.set_cons_zero, List.set_cons_succ]
        refine wpAnyH_done (by kernel_rfl) ?_ _
        go_wp2_with fail
        go_meet
        exact ⟨va, vn, vc, hfin.out.1, hfin.out.2⟩
    case rest =>
      obtain ⟨va, vn, vc, HBH2, HB2⟩ := hcut
      have HBX : Hid (Below B0 w wc) := (HBW.out.trans (HB1.out.mono (by have := HBH.out.b.lt; have := HBH.out.lo; omega))).trans HB2.out
      clear hIN hv hg0 hg1 hg2 hg3 hal hbl1 hbl2 hbl3 hbl4 hbl5 hbl6 hW3 HBH1 HB1 HB2 HBW HBH hyg HP
      have BST : Hid (∀ w', Below wc.heap.size wc w' → _) := fun w' h => bsTo_any vT T (k1, k2, k3, k4) w' (by have := HTN.out; omega) (hrow_of_own (own_older HBH2.out.t h)) HST.out
      have b3 := HBH2.out.b.cell 3
      have g0 := HBH2.out.g.cell 0
      have g1 := HBH2.out.g.cell 1
      have g2 := HBH2.out.g.cell 2
      have g3 := HBH2.out.g.cell 3
      simp [heCs] at b3 g0 g1 g2 g3
      dsimp only at BST
      obtain ⟨wX, hwX⟩ : ∃ x, x = wc := ⟨_, rfl⟩
      subst hwX
      go_upto_region 3 with fail
      go_cut [4] (fun pv wx => ∃ p : Nat, pv = .int .i64 p ∧ Hid (p ≤ T.length) ∧ Hid (SortedT (T.take p ++ (k1, k2, k3, k4) :: T.drop p)) ∧ Hid (Below wX.heap.size wX wx))
      case first =>
        go_region_held3 (fun w' => w'.cell? ⟨bd, 3, none⟩ = some vT ∧ w'.cell? ⟨gB, 0, none⟩ = some (.int .i64 (k1 : Nat)) ∧ w'.cell? ⟨gB, 1, none⟩ = some (.int .i64 (k2 : Nat)) ∧ w'.cell? ⟨gB, 2, none⟩ = some (.int .i64 (k3 : Nat)) ∧ w'.cell? ⟨gB, 3, none⟩ = some (.int .i64 (k4 : Nat)) ∧ Below wX.heap.size wX w')
          (first
            | exact ⟨b3, g0, g1, g2, g3, Below.refl _ _⟩
            | exact ⟨b3, g0, g1, g2, g3, (Below.refl _ _).drew⟩
            | (rcases ‹_ ∧ _ ∧ _ ∧ _ ∧ _ ∧ Below wX.heap.size _ _› with ⟨q0, q1, q2, q3, q4, q5⟩; exact ⟨cell_next (by assumption) q0, cell_next (by assumption) q1, cell_next (by assumption) q2, cell_next (by assumption) q3, cell_next (by assumption) q4, below_next (by assumption) q5⟩))
          (first
            | (go_at_call 66; ((with_reducible refine (BST.out _ (‹_ ∧ _ ∧ _ ∧ _ ∧ _ ∧ Below wX.heap.size wX _›).2.2.2.2.2).mono ?_); rintro e w2 ⟨p, fq, rfl, hp, hs, b2⟩; have hp := Lib.hid hp; have hs := Lib.hid hs)))
        go_wp2_with fail
        go_meet
        exact ⟨_, rfl, ‹Hid (_ ≤ T.length)›, ‹Hid (SortedT _)›, (‹_ ∧ _ ∧ _ ∧ _ ∧ _ ∧ Below wX.heap.size wX _›).2.2.2.2.2⟩
      case rest =>
        obtain ⟨pT, rfl, HPT, HS2, HB3⟩ := hcut
        obtain ⟨vX, hvX⟩ : ∃ x, x = Value.slice va vn vc := ⟨_, rfl⟩
        rw [← hvX] at HBH2
        have HVX := Lib.hid hvX
        clear hvX
        have HBH1 := Lib.hid (HBH2.out.kept HB3.out)
        have hIN : Hid (∀ w', (∃ q, w' = (wc.drewN q).alloc (.cells #[.int .i64 (k1 : Nat), .int .i64 (k2 : Nat), .int .i64 (k3 : Nat), .int .i64 (k4 : Nat)] 57)) → Calls Try.prog 67 #[vT, .int .i64 (pT : Nat), .slice (some ⟨wc.heap.size, 0, none⟩) 1 1] w'
          fun e w'' => ∃ va vn vc, e = .returned (.slice va vn vc) ∧ (w''.cell? ⟨bd, 3, none⟩ = some vT ∧ w''.frozen? ⟨bd, 3, none⟩ = false ∧ Hid (Blk w'' gB (heCs (k1, k2, k3, k4)) 57)) ∧
            Hid (BH (w''.setCell ⟨bd, 3, none⟩ (.slice va vn vc)) bd B0 n vf vX (.slice va vn vc) (F.take p ++ (k1, k2, k3, k4) :: F.drop p) (T.take pT ++ (k1, k2, k3, k4) :: T.drop pT) gB (k1, k2, k3, k4) o ∧ Below B0 wc (w''.setCell ⟨bd, 3, none⟩ (.slice va vn vc)))) := fun w' h => HBH1.out.ins3 HPT.out HTN.out w' h
        have hv := HBH1.out.b.cell 3
        have hg0 := HBH1.out.g.cell 0
        have hg1 := HBH1.out.g.cell 1
        have hg2 := HBH1.out.g.cell 2
        have hg3 := HBH1.out.g.cell 3
        simp [heCs] at hv hg0 hg1 hg2 hg3
        have hyg : bd ≠ gB := HBH1.out.bg
        have hal : ∀ q C t, Below wc.heap.size wc ((wc.drewN q).alloc (.cells C t)) := fun q C t => (below_drewN (Below.refl _ _) q).alloc (Nat.le_refl _) _
        have hbl1 : ∀ q C t, ((wc.drewN q).alloc (.cells C t)).cell? ⟨bd, 3, none⟩ = some vT := fun q C t => cell_next (w2 := (wc.drewN q).alloc (.cells C t)) (hal q C t) hv
        have hbl2 : ∀ q C t, ((wc.drewN q).alloc (.cells C t)).cell? ⟨gB, 0, none⟩ = some (.int .i64 (k1 : Nat)) := fun q C t => cell_next (w2 := (wc.drewN q).alloc (.cells C t)) (hal q C t) hg0
        have hbl3 : ∀ q C t, ((wc.drewN q).alloc (.cells C t)).cell? ⟨gB, 1, none⟩ = some (.int .i64 (k2 : Nat)) := fun q C t => cell_next (w2 := (wc.drewN q).alloc (.cells C t)) (hal q C t) hg1
        have hbl4 : ∀ q C t, ((wc.drewN q).alloc (.cells C t)).cell? ⟨gB, 2, none⟩ = some (.int .i64 (k3 : Nat)) := fun q C t => cell_next (w2 := (wc.drewN q).alloc (.cells C t)) (hal q C t) hg2
        have hbl5 : ∀ q C t, ((wc.drewN q).alloc (.cells C t)).cell? ⟨gB, 3, none⟩ = some (.int .i64 (k4 : Nat)) := fun q C t => cell_next (w2 := (wc.drewN q).alloc (.cells C t)) (hal q C t) hg3
        have hbl6 : ∀ C t, (wc.alloc (.cells C t)).cell? ⟨bd, 3, none⟩ = some vT := fun C t => hbl1 0 C t
        have hW3 : ∃ q, (wc.alloc (.cells #[.int .i64 (k1 : Nat), .int .i64 (k2 : Nat), .int .i64 (k3 : Nat), .int .i64 (k4 : Nat)] 57)).drew = (wc.drewN q).alloc (.cells #[.int .i64 (k1 : Nat), .int .i64 (k2 : Nat), .int .i64 (k3 : Nat), .int .i64 (k4 : Nat)] 57) := ⟨1, rfl⟩
        have HBY : Hid (Below B0 w wc) := HBX.out.trans (HB3.out.mono (by have := HBH2.out.b.lt; have := HBH2.out.lo; omega))
        clear b3 g0 g1 g2 g3 BST HBX HB3
        go_upto_region 4 with fail
        refine wp_region_held_drew (S := (fun w' => w'.cell? ⟨gB, 0, none⟩ = some (.int .i64 (k1 : Nat)) ∧ w'.cell? ⟨gB, 1, none⟩ = some (.int .i64 (k2 : Nat)) ∧ w'.cell? ⟨gB, 2, none⟩ = some (.int .i64 (k3 : Nat)) ∧ w'.cell? ⟨gB, 3, none⟩ = some (.int .i64 (k4 : Nat)))) (by kernel_rfl) (by
          first
            | exact ⟨hg0, hg1, hg2, hg3⟩
            | exact ⟨hbl2 _ _ _, hbl3 _ _ _, hbl4 _ _ _, hbl5 _ _ _⟩
            | exact ⟨hbl2 0 _ _, hbl3 0 _ _, hbl4 0 _ _, hbl5 0 _ _⟩
            | exact ⟨by assumption, by assumption, by assumption, by assumption⟩
            | exact ⟨(World.cell?_setCell_far _ _ _ _ hyg).trans (by assumption), (World.cell?_setCell_far _ _ _ _ hyg).trans (by assumption), (World.cell?_setCell_far _ _ _ _ hyg).trans (by assumption), (World.cell?_setCell_far _ _ _ _ hyg).trans (by assumption)⟩
          ) (fun hHeld => ?_)
        refine wpAnyH_take (i := 0) (oi := { dst := some 35, op := Op.move (Operand.tmp 0), type := 70, pos := "board.go:38", after := #[], guard := none }) (v := ?_) rfl (by kernel_rfl) (by kernel_rfl) (by kernel_rfl) (fun _ _ _ h => h) (Or.inl ⟨by kernel_rfl, ?_⟩) (by assumption) ?_
        rotate_left
        · (intro w hSw; (try dsimp only at hSw); go_simp; try with_reducible rfl)
        try simp only [Act.put, List.setIfInBounds_toArray, List.set_cons_zero, List.set_cons_succ]
        refine wpAnyH_take (i := 1) (oi := { dst := some 36, op := Op.move (Operand.tmp 0), type := 70, pos := "board.go:38", after := #[], guard := none }) (v := ?_) rfl (by kernel_rfl) (by kernel_rfl) (by kernel_rfl) (fun _ _ _ h => h) (Or.inl ⟨by kernel_rfl, ?_⟩) (by assumption) ?_
        rotate_left
        · (intro w hSw; (try dsimp only at hSw); go_simp; try with_reducible rfl)
        try simp only [Act.put, List.setIfInBounds_toArray, List.set_cons_zero, List.set_cons_succ]
        refine wpAnyH_take (i := 2) (oi := { dst := some 37, op := Op.nilCheck (Operand.tmp 36), type := 0, pos := "board.go:38", after := #[{ on := 1, ground := Ground.data }], guard := none }) (v := ?_) rfl (by kernel_rfl) (by kernel_rfl) (by kernel_rfl) (fun _ _ _ h => h) (Or.inl ⟨by kernel_rfl, ?_⟩) (by assumption) ?_
        rotate_left
        · (intro w hSw; (try dsimp only at hSw); go_simp; try with_reducible rfl)
        try simp only [Act.put, List.setIfInBounds_toArray, List.set_cons_zero, List.set_cons_succ]
        refine wpAnyH_take (i := 3) (oi := { dst := some 38, op := Op.fieldAddr 85 (Operand.tmp 37) 3, type := 0, pos := "board.go:38", after := #[{ on := 2, ground := Ground.data }], guard := none }) (v := ?_) rfl (by kernel_rfl) (by kernel_rfl) (by kernel_rfl) (fun _ _ _ h => h) (Or.inl ⟨by kernel_rfl, ?_⟩) (by assumption) ?_
        rotate_left
        · (intro w hSw; (try dsimp only at hSw); go_simp; try with_reducible rfl)
        try simp only [Act.put, List.setIfInBounds_toArray, List.set_cons_zero, List.set_cons_succ]
        refine wpAnyH_take (i := 5) (oi := { dst := some 40, op := Op.move (Operand.tmp 4), type := 3, pos := "board.go:38", after := #[], guard := none }) (v := ?_) rfl (by kernel_rfl) (by kernel_rfl) (by kernel_rfl) (fun _ _ _ h => h) (Or.inl ⟨by kernel_rfl, ?_⟩) (by assumption) ?_
        rotate_left
        · (intro w hSw; (try dsimp only at hSw); go_simp; try with_reducible rfl)
        try simp only [Act.put, List.setIfInBounds_toArray, List.set_cons_zero, List.set_cons_succ]
        refine wpAnyH_take (i := 6) (oi := { dst := some 41, op := Op.load 57 (Operand.tmp 3), type := 57, pos := "board.go:38", after := #[], guard := none }) (v := ?_) rfl (by kernel_rfl) (by kernel_rfl) (by kernel_rfl) (fun _ _ _ h => h) (Or.inl ⟨by kernel_rfl, ?_⟩) (by assumption) ?_
        rotate_left
        · (intro w hSw; (try dsimp only at hSw); go_simp; try with_reducible rfl)
        try simp only [Act.put, List.setIfInBounds_toArray, List.set_cons_zero, List.set_cons_succ]
        refine wpAnyH_ready (rs := [4, 7]) (by kernel_rfl) (by simp) ?_
        refine AllReadyH.cons (o := { dst := some 39, op := Op.load 23 (Operand.tmp 38), type := 23, pos := "board.go:38", after := #[{ on := 3, ground := Ground.data }], guard := none }) rfl (fun K hK => ?_) (AllReadyH.cons (o := { dst := some 42, op := Op.buildSlice 23 1 #[(0, Operand.tmp 41)], type := 23, pos := "board.go:38", after := #[{ on := 6, ground := Ground.data }], guard := none }) rfl (fun K hK => ?_) AllReadyH.nil)
        rotate_left
        · go_simp
          refine hK.out _ _ ?_ (fun hHeld => ?_)
          · first
              | exact ⟨hg0, hg1, hg2, hg3⟩
              | exact ⟨hbl2 _ _ _, hbl3 _ _ _, hbl4 _ _ _, hbl5 _ _ _⟩
              | exact ⟨hbl2 0 _ _, hbl3 0 _ _, hbl4 0 _ _, hbl5 0 _ _⟩
              | exact ⟨by assumption, by assumption, by assumption, by assumption⟩
              | exact ⟨(World.cell?_setCell_far _ _ _ _ hyg).trans (by assumption), (World.cell?_setCell_far _ _ _ _ hyg).trans (by assumption), (World.cell?_setCell_far _ _ _ _ hyg).trans (by assumption), (World.cell?_setCell_far _ _ _ _ hyg).trans (by assumption)⟩
          clear hK K
          try simp only [Act.put, List.setIfInBounds_toArray, List.set_cons_zero, List.set_cons_succ]
          refine wpAnyH_ready (rs := [4]) (by kernel_rfl) (by simp) ?_
          refine AllReadyH.cons (o := { dst := some 39, op := Op.load 23 (Operand.tmp 38), type := 23, pos := "board.go:38", after := #[{ on := 3, ground := Ground.data }], guard := none }) rfl (fun K hK => ?_) AllReadyH.nil
          go_simp
          refine hK.out _ _ ?_ (fun hHeld => ?_)
          · first
              | exact ⟨hg0, hg1, hg2, hg3⟩
              | exact ⟨hbl2 _ _ _, hbl3 _ _ _, hbl4 _ _ _, hbl5 _ _ _⟩
              | exact ⟨hbl2 0 _ _, hbl3 0 _ _, hbl4 0 _ _, hbl5 0 _ _⟩
              | exact ⟨by assumption, by assumption, by assumption, by assumption⟩
              | exact ⟨(World.cell?_setCell_far _ _ _ _ hyg).trans (by assumption), (World.cell?_setCell_far _ _ _ _ hyg).trans (by assumption), (World.cell?_setCell_far _ _ _ _ hyg).trans (by assumption), (World.cell?_setCell_far _ _ _ _ hyg).trans (by assumption)⟩
          clear hK K
          try simp only [Act.put, List.setIfInBounds_toArray, List.set_cons_zero, List.set_cons_succ]
          refine wpAnyH_ready (rs := [8]) (by kernel_rfl) (by simp) ?_
          refine AllReadyH.cons (o := { dst := some 43, op := Op.call { callee := Callee.value (Operand.func 67), args := #[Operand.tmp 39, Operand.tmp 40, Operand.tmp 42], argTypes := #[23, 3, 23] }, type := 23, pos := "board.go:38", after := #[{ on := 4, ground := Ground.data }, { on := 5, ground := Ground.data }, { on := 7, ground := Ground.data }], guard := none }) rfl (fun K hK => ?_) AllReadyH.nil
          (go_simp; go_at_call 67; ((with_reducible refine (hIN.out _ hW3).mono ?_); rintro e w2 ⟨va, vn, vc, rfl, ⟨d1, d2, d3⟩, hfin⟩; have d4 := d3.out.cell 0; have d5 := d3.out.cell 1; have d6 := d3.out.cell 2; have d7 := d3.out.cell 3; simp [heCs] at d4 d5 d6 d7; go_simp))
          refine hK.out _ _ ?_ (fun hHeld => ?_)
          · first
              | exact ⟨hg0, hg1, hg2, hg3⟩
              | exact ⟨hbl2 _ _ _, hbl3 _ _ _, hbl4 _ _ _, hbl5 _ _ _⟩
              | exact ⟨hbl2 0 _ _, hbl3 0 _ _, hbl4 0 _ _, hbl5 0 _ _⟩
              | exact ⟨by assumption, by assumption, by assumption, by assumption⟩
              | exact ⟨(World.cell?_setCell_far _ _ _ _ hyg).trans (by assumption), (World.cell?_setCell_far _ _ _ _ hyg).trans (by assumption), (World.cell?_setCell_far _ _ _ _ hyg).trans (by assumption), (World.cell?_setCell_far _ _ _ _ hyg).trans (by assumption)⟩
          clear hK K
          try simp only [Act.put, List.setIfInBounds_toArray, List.set_cons_zero, List.set_cons_succ]
          refine wpAnyH_take (i := 9) (oi := { dst := some 44, op := Op.nilCheck (Operand.tmp 35), type := 0, pos := "board.go:38", after := #[{ on := 0, ground := Ground.data }, { on := 0, ground := Ground.phase }, { on := 1, ground := Ground.phase }, { on := 2, ground := Ground.phase }, { on := 3, ground := Ground.phase }, { on := 4, ground := Ground.phase }, { on := 5, ground := Ground.phase }, { on := 6, ground := Ground.phase }, { on := 7, ground := Ground.phase }, { on := 8, ground := Ground.phase }], guard := none }) (v := ?_) rfl (by kernel_rfl) (by kernel_rfl) (by kernel_rfl) (fun _ _ _ h => h) (Or.inl ⟨by kernel_rfl, ?_⟩) (by assumption) ?_
          rotate_left
          · (intro w hSw; (try dsimp only at hSw); go_simp; try with_reducible rfl)
          try simp only [Act.put, List.setIfInBounds_toArray, List.set_cons_zero, List.set_cons_succ]
          refine wpAnyH_take (i := 10) (oi := { dst := some 45, op := Op.fieldAddr 85 (Operand.tmp 44) 3, type := 0, pos := "board.go:38", after := #[{ on := 9, ground := Ground.data }, { on := 0, ground := Ground.phase }, { on := 1, ground := Ground.phase }, { on := 2, ground := Ground.phase }, { on := 3, ground := Ground.phase }, { on := 4, ground := Ground.phase }, { on := 5, ground := Ground.phase }, { on := 6, ground := Ground.phase }, { on := 7, ground := Ground.phase }, { on := 8, ground := Ground.phase }], guard := none }) (v := ?_) rfl (by kernel_rfl) (by kernel_rfl) (by kernel_rfl) (fun _ _ _ h => h) (Or.inl ⟨by kernel_rfl, ?_⟩) (by assumption) ?_
          rotate_left
          · (intro w hSw; (try dsimp only at hSw); go_simp; try with_reducible rfl)
          try simp only [Act.put, List.setIfInBounds_toArray, List.set_cons_zero, List.set_cons_succ]
          refine wpAnyH_ready (rs := [11]) (by kernel_rfl) (by simp) ?_
          refine AllReadyH.cons (o := { dst := none, op := Op.store 23 (Operand.tmp 45) (Operand.tmp 43), type := 0, pos := "board.go:38", after := #[{ on := 10, ground := Ground.data }, { on := 8, ground := Ground.data }, { on := 8, ground := Ground.chain }, { on := 0, ground := Ground.phase }, { on := 1, ground := Ground.phase }, { on := 2, ground := Ground.phase }, { on := 3, ground := Ground.phase }, { on := 4, ground := Ground.phase }, { on := 5, ground := Ground.phase }, { on := 6, ground := Ground.phase }, { on := 7, ground := Ground.phase }, { on := 8, ground := Ground.phase }], guard := none }) rfl (fun K hK => ?_) AllReadyH.nil
          go_simp
          refine hK.out _ _ ?_ (fun hHeld => ?_)
          · first
              | exact ⟨hg0, hg1, hg2, hg3⟩
              | exact ⟨hbl2 _ _ _, hbl3 _ _ _, hbl4 _ _ _, hbl5 _ _ _⟩
              | exact ⟨hbl2 0 _ _, hbl3 0 _ _, hbl4 0 _ _, hbl5 0 _ _⟩
              | exact ⟨by assumption, by assumption, by assumption, by assumption⟩
              | exact ⟨(World.cell?_setCell_far _ _ _ _ hyg).trans (by assumption), (World.cell?_setCell_far _ _ _ _ hyg).trans (by assumption), (World.cell?_setCell_far _ _ _ _ hyg).trans (by assumption), (World.cell?_setCell_far _ _ _ _ hyg).trans (by assumption)⟩
          clear hK K
          try simp only [Act.put, List.setIfInBounds_toArray, List.set_cons_zero, List.set_cons_succ]
          refine wpAnyH_done (by kernel_rfl) ?_ _
          go_wp2_with fail
          go_returns
          exact ⟨rfl, vX, _, _, _, hfin.out.1.b, hfin.out.1.f, hfin.out.1.t, hfin.out.1.fb, hfin.out.1.tb, hfin.out.1.ft, permIn _ _ _, permIn _ _ _, HS.out, HS2.out, HBY.out.trans hfin.out.2, hfin.out.1.ow, hfin.out.1.oF, hfin.out.1.oT⟩
        · go_simp
          refine hK.out _ _ ?_ (fun hHeld => ?_)
          · first
              | exact ⟨hg0, hg1, hg2, hg3⟩
              | exact ⟨hbl2 _ _ _, hbl3 _ _ _, hbl4 _ _ _, hbl5 _ _ _⟩
              | exact ⟨hbl2 0 _ _, hbl3 0 _ _, hbl4 0 _ _, hbl5 0 _ _⟩
              | exact ⟨by assumption, by assumption, by assumption, by assumption⟩
              | exact ⟨(World.cell?_setCell_far _ _ _ _ hyg).trans (by assumption), (World.cell?_setCell_far _ _ _ _ hyg).trans (by assumption), (World.cell?_setCell_far _ _ _ _ hyg).trans (by assumption), (World.cell?_setCell_far _ _ _ _ hyg).trans (by assumption)⟩
          clear hK K
          try simp only [Act.put, List.setIfInBounds_toArray, List.set_cons_zero, List.set_cons_succ]
          refine wpAnyH_ready (rs := [7]) (by kernel_rfl) (by simp) ?_
          refine AllReadyH.cons (o := { dst := some 42, op := Op.buildSlice 23 1 #[(0, Operand.tmp 41)], type := 23, pos := "board.go:38", after := #[{ on := 6, ground := Ground.data }], guard := none }) rfl (fun K hK => ?_) AllReadyH.nil
          go_simp
          refine hK.out _ _ ?_ (fun hHeld => ?_)
          · first
              | exact ⟨hg0, hg1, hg2, hg3⟩
              | exact ⟨hbl2 _ _ _, hbl3 _ _ _, hbl4 _ _ _, hbl5 _ _ _⟩
              | exact ⟨hbl2 0 _ _, hbl3 0 _ _, hbl4 0 _ _, hbl5 0 _ _⟩
              | exact ⟨by assumption, by assumption, by assumption, by assumption⟩
              | exact ⟨(World.cell?_setCell_far _ _ _ _ hyg).trans (by assumption), (World.cell?_setCell_far _ _ _ _ hyg).trans (by assumption), (World.cell?_setCell_far _ _ _ _ hyg).trans (by assumption), (World.cell?_setCell_far _ _ _ _ hyg).trans (by assumption)⟩
          clear hK K
          try simp only [Act.put, List.setIfInBounds_toArray, List.set_cons_zero, List.set_cons_succ]
          refine wpAnyH_ready (rs := [8]) (by kernel_rfl) (by simp) ?_
          refine AllReadyH.cons (o := { dst := some 43, op := Op.call { callee := Callee.value (Operand.func 67), args := #[Operand.tmp 39, Operand.tmp 40, Operand.tmp 42], argTypes := #[23, 3, 23] }, type := 23, pos := "board.go:38", after := #[{ on := 4, ground := Ground.data }, { on := 5, ground := Ground.data }, { on := 7, ground := Ground.data }], guard := none }) rfl (fun K hK => ?_) AllReadyH.nil
          (go_simp; go_at_call 67; ((with_reducible refine (hIN.out _ hW3).mono ?_); rintro e w2 ⟨va, vn, vc, rfl, ⟨d1, d2, d3⟩, hfin⟩; have d4 := d3.out.cell 0; have d5 := d3.out.cell 1; have d6 := d3.out.cell 2; have d7 := d3.out.cell 3; simp [heCs] at d4 d5 d6 d7; go_simp))
          refine hK.out _ _ ?_ (fun hHeld => ?_)
          · first
              | exact ⟨hg0, hg1, hg2, hg3⟩
              | exact ⟨hbl2 _ _ _, hbl3 _ _ _, hbl4 _ _ _, hbl5 _ _ _⟩
              | exact ⟨hbl2 0 _ _, hbl3 0 _ _, hbl4 0 _ _, hbl5 0 _ _⟩
              | exact ⟨by assumption, by assumption, by assumption, by assumption⟩
              | exact ⟨(World.cell?_setCell_far _ _ _ _ hyg).trans (by assumption), (World.cell?_setCell_far _ _ _ _ hyg).trans (by assumption), (World.cell?_setCell_far _ _ _ _ hyg).trans (by assumption), (World.cell?_setCell_far _ _ _ _ hyg).trans (by assumption)⟩
          clear hK K
          try simp only [Act.put, List.setIfInBounds_toArray, List.set_cons_zero, List.set_cons_succ]
          refine wpAnyH_take (i := 9) (oi := { dst := some 44, op := Op.nilCheck (Operand.tmp 35), type := 0, pos := "board.go:38", after := #[{ on := 0, ground := Ground.data }, { on := 0, ground := Ground.phase }, { on := 1, ground := Ground.phase }, { on := 2, ground := Ground.phase }, { on := 3, ground := Ground.phase }, { on := 4, ground := Ground.phase }, { on := 5, ground := Ground.phase }, { on := 6, ground := Ground.phase }, { on := 7, ground := Ground.phase }, { on := 8, ground := Ground.phase }], guard := none }) (v := ?_) rfl (by kernel_rfl) (by kernel_rfl) (by kernel_rfl) (fun _ _ _ h => h) (Or.inl ⟨by kernel_rfl, ?_⟩) (by assumption) ?_
          rotate_left
          · (intro w hSw; (try dsimp only at hSw); go_simp; try with_reducible rfl)
          try simp only [Act.put, List.setIfInBounds_toArray, List.set_cons_zero, List.set_cons_succ]
          refine wpAnyH_take (i := 10) (oi := { dst := some 45, op := Op.fieldAddr 85 (Operand.tmp 44) 3, type := 0, pos := "board.go:38", after := #[{ on := 9, ground := Ground.data }, { on := 0, ground := Ground.phase }, { on := 1, ground := Ground.phase }, { on := 2, ground := Ground.phase }, { on := 3, ground := Ground.phase }, { on := 4, ground := Ground.phase }, { on := 5, ground := Ground.phase }, { on := 6, ground := Ground.phase }, { on := 7, ground := Ground.phase }, { on := 8, ground := Ground.phase }], guard := none }) (v := ?_) rfl (by kernel_rfl) (by kernel_rfl) (by kernel_rfl) (fun _ _ _ h => h) (Or.inl ⟨by kernel_rfl, ?_⟩) (by assumption) ?_
          rotate_left
          · (intro w hSw; (try dsimp only at hSw); go_simp; try with_reducible rfl)
          try simp only [Act.put, List.setIfInBounds_toArray, List.set_cons_zero, List.set_cons_succ]
          refine wpAnyH_ready (rs := [11]) (by kernel_rfl) (by simp) ?_
          refine AllReadyH.cons (o := { dst := none, op := Op.store 23 (Operand.tmp 45) (Operand.tmp 43), type := 0, pos := "board.go:38", after := #[{ on := 10, ground := Ground.data }, { on := 8, ground := Ground.data }, { on := 8, ground := Ground.chain }, { on := 0, ground := Ground.phase }, { on := 1, ground := Ground.phase }, { on := 2, ground := Ground.phase }, { on := 3, ground := Ground.phase }, { on := 4, ground := Ground.phase }, { on := 5, ground := Ground.phase }, { on := 6, ground := Ground.phase }, { on := 7, ground := Ground.phase }, { on := 8, ground := Ground.phase }], guard := none }) rfl (fun K hK => ?_) AllReadyH.nil
          go_simp
          refine hK.out _ _ ?_ (fun hHeld => ?_)
          · first
              | exact ⟨hg0, hg1, hg2, hg3⟩
              | exact ⟨hbl2 _ _ _, hbl3 _ _ _, hbl4 _ _ _, hbl5 _ _ _⟩
              | exact ⟨hbl2 0 _ _, hbl3 0 _ _, hbl4 0 _ _, hbl5 0 _ _⟩
              | exact ⟨by assumption, by assumption, by assumption, by assumption⟩
              | exact ⟨(World.cell?_setCell_far _ _ _ _ hyg).trans (by assumption), (World.cell?_setCell_far _ _ _ _ hyg).trans (by assumption), (World.cell?_setCell_far _ _ _ _ hyg).trans (by assumption), (World.cell?_setCell_far _ _ _ _ hyg).trans (by assumption)⟩
          clear hK K
          try simp only [Act.put, List.setIfInBounds_toArray, List.set_cons_zero, List.set_cons_succ]
          refine wpAnyH_done (by kernel_rfl) ?_ _
          go_wp2_with fail
          go_returns
          exact ⟨rfl, vX, _, _, _, hfin.out.1.b, hfin.out.1.f, hfin.out.1.t, hfin.out.1.fb, hfin.out.1.tb, hfin.out.1.ft, permIn _ _ _, permIn _ _ _, HS.out, HS2.out, HBY.out.trans hfin.out.2, hfin.out.1.ow, hfin.out.1.oF, hfin.out.1.oT⟩
end

end Go.Proofs.Ytioeblljabohbaa
