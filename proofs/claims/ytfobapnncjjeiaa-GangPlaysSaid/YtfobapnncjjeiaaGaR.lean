/-
  Matrix.Runs, walked.
-/
import Derived.Test.YtfobapnncjjeiaaGaK
import Derived.Test.YtfobapnncjjeiaaGaQ
import Derived.Test.YtfobapnncjjeiaaGaO
import Derived.Test.YtfobapnncjjeiaaSuA
namespace Go.Proofs.Ytfobapnncjjeiaa
open Go Go.RowKit Go.Lib
set_option linter.unusedVariables false

theorem Try.infoU32 : (Try.prog.info? 32).map (fun i => (i.zero, i.size, i.bytes)) = some (some (.int .u32 0), 1, 4) := by kernel_rfl
theorem src_u {w : World} {g : Nat} {x : Nat} (h : Blk w g #[.int .u32 (x : Nat)] 32) : Src w 1 (.slice (some ⟨g, 0, none⟩) 1 1) 1 (uV x) :=
  ⟨rfl, .inr ⟨⟨g, 0, none⟩, 1, rfl, news_blk (cs := uV x) h⟩⟩
theorem uV_one (x : Nat) : ∀ u ∈ uV x, u.oneCell' = true := fun u hu => by simp [uV] at hu; rw [hu]; rfl
def ids (l : List Ce) : List Nat := l.map (·.1)
def zero16 : Array Value := #[.int .u64 0, .int .u64 0, .int .u64 0, .int .u64 0, .int .u64 0, .int .u64 0, .int .u64 0, .int .u64 0, .int .u64 0, .int .u64 0, .int .u64 0, .int .u64 0, .int .u64 0, .int .u64 0, .int .u64 0, .int .u64 0]
theorem colB_zero {w : World} {g : Nat} (h : Blk w g zero16 62) : ColB w g 0 62 zero16 (fun _ => 0) := by
  refine ⟨h, fun j hj => ?_⟩
  rw [Nat.zero_add]
  match j, hj with
  | 0, _ => rfl
  | 1, _ => rfl
  | 2, _ => rfl
  | 3, _ => rfl
  | 4, _ => rfl
  | 5, _ => rfl
  | 6, _ => rfl
  | 7, _ => rfl
  | 8, _ => rfl
  | 9, _ => rfl
  | 10, _ => rfl
  | 11, _ => rfl
  | 12, _ => rfl
  | 13, _ => rfl
  | 14, _ => rfl
  | 15, _ => rfl
  | j + 16, h => omega
/-- What the loops of Runs hold: the columns that are used, and the numbers so far. -/
structure RunAt (w0 wr : World) (gU : Nat) (ia : Option Addr) (ic : Nat) (acc : List Ce) : Prop where
  col : ∃ cs U, ColB wr gU 0 62 cs U ∧ Words U (CovA acc)
  row : wr.ownsRow w0.heap.size 32 1 (.slice ia acc.length ic) acc.length (uL (ids acc))
  b : Below w0.heap.size w0 wr
  lo : w0.heap.size ≤ gU
theorem RunAt.kept {w0 wr w' : World} {gU ic : Nat} {ia : Option Addr} {acc : List Ce} (h : RunAt w0 wr gU ia ic acc) (hb : Below wr.heap.size wr w') : RunAt w0 w' gU ia ic acc := by
  obtain ⟨cs, U, h1, h2⟩ := h.col
  exact ⟨⟨cs, U, h1.kept hb, h2⟩, own_older h.row hb, below_next hb h.b, h.lo⟩
theorem RunAt.ne {w0 wr : World} {gU ic : Nat} {ia : Option Addr} {acc : List Ce} (h : RunAt w0 wr gU ia ic acc) : (Value.slice ia acc.length ic).ownBlock ≠ some gU := by
  intro e
  obtain ⟨cs, U, h1, h2⟩ := h.col
  obtain ⟨_, ⟨h3, _⟩ | ⟨g, cap, cur, h3, _, h4, _⟩⟩ := h.row
  · rw [h3] at e; cases e
  · rw [h3] at e
    have : g = gU := by simpa [Value.ownBlock] using e
    subst this
    have hb := h1.blk
    unfold Blk at hb
    rw [h4] at hb
    injection hb with hb
    injection hb with _ hb
    exact absurd hb (by decide)
theorem ids_app (acc : List Ce) (c : Ce) : uL (ids acc) ++ uV c.1 = uL (ids (acc ++ [c])) := by
  unfold uL ids; rw [List.map_append, List.flatMap_append]; simp
structure RunAt' (w0 wr : World) (gU : Nat) (v : Value) (acc : List Ce) : Prop where
  col : ∃ cs U, ColB wr gU 0 62 cs U ∧ Words U (CovA acc)
  row : wr.ownsRow w0.heap.size 32 1 v acc.length (uL (ids acc))
  b : Below w0.heap.size w0 wr
  lo : w0.heap.size ≤ gU
theorem RunAt'.open_ {w0 wr : World} {gU : Nat} {v : Value} {acc : List Ce} (h : RunAt' w0 wr gU v acc) : ∃ a c, v = .slice a acc.length c ∧ RunAt w0 wr gU a c acc := by
  obtain ⟨a, c, rfl⟩ := own_slice h.row
  exact ⟨a, c, rfl, ⟨h.col, h.row, h.b, h.lo⟩⟩
theorem runAt_app {w0 w6 w8 : World} {gU ic : Nat} {ia : Option Addr} {o : Obj} {v8 : Value} {acc : List Ce} {c : Ce} {cs : Array Value} {U : Nat → Nat} (hcol : ColB w6 gU 0 62 cs U) (hw : Words U (CovA (acc ++ [c])))
    (hrow : w6.ownsRow w0.heap.size 32 1 (.slice ia acc.length ic) acc.length (uL (ids acc))) (hb : Below w0.heap.size w0 w6) (hlo : w0.heap.size ≤ gU) (hne : (Value.slice ia acc.length ic).ownBlock ≠ some gU)
    (h8 : w8.ownsRow w0.heap.size 32 1 v8 (acc.length + 1) (uL (ids acc) ++ uV c.1)) (hg : (w6.alloc o).grownBy w8 (Value.slice ia acc.length ic).ownBlock) : RunAt' w0 w8 gU v8 (acc ++ [c]) := by
  have hk : Below w6.heap.size w6 (w6.alloc o) := (Below.refl _ _).alloc (Nat.le_refl _) _
  refine ⟨⟨cs, U, ⟨(hcol.blk.kept hk).other' hg hne, hcol.at_⟩, hw⟩, ?_, (hb.alloc hb.size o).grown hg (by have := hb.size; simp; omega) (fun k hk => (hrow.lt k hk).1), hlo⟩
  rw [ids_app] at h8
  rw [List.length_append]; exact h8
set_option maxRecDepth 100000 in
set_option maxHeartbeats 8000000 in
theorem runs_any (N m n a : Nat) (own : Nat → Prop) (l : List Ce) (w : World) (h : GN w m own n a l) (hact : a < rowsG l ∨ a = 0) (hS : SortU N) (hN : (runsG l a).length ≤ N) :
    Calls Try.prog 15 #[.pointer (some ⟨m, 0, none⟩)] w fun e w' => (∃ v ys, e = .returned v ∧ ys.Perm (ids (runsG l a)) ∧ ys.Pairwise (· ≤ ·) ∧ UOwn w' w.heap.size v ys) ∧ Below w.heap.size w w' := by
  obtain ⟨i0, hi, hz0, hz1, hz2⟩ := info_parts Try.infoU32
  have HOK := Lib.hid h.ok
  have hlen := h.ok.len
  have hr16 := rowsG_16 h.ok
  have RW := Lib.hid (rows_any m n a own l w h)
  have HG := Lib.hid h
  have HS := Lib.hid hS
  have HN := Lib.hid hN
  obtain ⟨R, hR⟩ : ∃ R, R = rowsG l := ⟨_, rfl⟩
  rw [← hR] at RW hr16 hact
  have HR := Lib.hid hR
  clear h hS hN hR
  go_enter Try.func15, Try.ntmps15
  go_wp2_with fail
  refine RW.out.mono ?_; rintro e w1 ⟨rfl, b1⟩
  have HB1 := Lib.hid b1
  clear b1 RW
  go_upto_region 2 with fail
  obtain ⟨gU, hgU⟩ : ∃ g, g = w1.heap.size := ⟨_, rfl⟩
  obtain ⟨w2, hw2⟩ : ∃ x, x = w1.alloc (.cells zero16 62) := ⟨_, rfl⟩
  obtain ⟨w3, hw3⟩ : ∃ x, x = w2.alloc (.cells #[] 32) := ⟨_, rfl⟩
  have HX : Hid (RunAt w w3 gU (some ⟨w2.heap.size, 0, none⟩) 0 []) := by
    have hb2 : Below w1.heap.size w1 w2 := by rw [hw2]; exact (Below.refl _ _).alloc (Nat.le_refl _) _
    have hb3 : Below w2.heap.size w2 w3 := by rw [hw3]; exact (Below.refl _ _).alloc (Nat.le_refl _) _
    refine ⟨⟨_, _, (colB_zero ?_).kept hb3, Words.none.congr fun x => ?_⟩, ?_, below_next hb3 (below_next hb2 HB1.out), by rw [hgU]; exact HB1.out.size⟩
    · rw [hw2, hgU]; exact Blk.new _ _ _
    · exact ⟨False.elim, fun ⟨c, hc, _⟩ => absurd hc List.not_mem_nil⟩
    · rw [hw3]; exact World.ownsRow_made w2 #[] 0 (Nat.le_trans HB1.out.size hb2.size) (Nat.zero_le _) (by simp)
  unfold zero16 at hw2
  go_upto_region 3 with fail
  rw [← hw2, ← hgU]
  clear hw2 hgU
  obtain ⟨g3, hg3⟩ : ∃ g, g = w2.heap.size := ⟨_, rfl⟩
  rw [← hg3] at HX
  go_upto_region 4 with fail
  rw [← hw3, ← hg3]
  clear hw3 hg3
  have hLB : Hid (∀ i, i ≤ R → (runTo l a i).length ≤ 262144) := fun i hi => by
    have h1 := runTo_len l a i
    have h2 : i * l.length ≤ 16 * 16384 := Nat.mul_le_mul (by omega) hlen
    omega
  obtain ⟨v, W0, hI, _⟩ := HG.out
  have hm := hI.gb.lt
  have HCR := Lib.hid (crow_of_own hI.row)
  have HC2 : Hid (∀ w', Below w.heap.size w w' → w'.cell? ⟨m, 2, none⟩ = some v ∧ w'.cell? ⟨m, 1, none⟩ = some (.int .i64 (a : Nat))) := fun w' hb => ⟨cell_next hb hI.gb.c2, cell_next hb hI.gb.c1⟩
  obtain ⟨va, vc, rfl⟩ := own_slice hI.row
  obtain ⟨LL, hLL⟩ : ∃ n, n = l.length := ⟨_, rfl⟩
  have HLL := Lib.hid hLL
  rw [← hLL] at HC2 HCR hlen
  clear hI hLL
  go_upto_region 5 with fail
  go_loopw [15, 5] (fun iv sv wr => ∃ (i : Nat) (ia : Option Addr) (ic : Nat), i ≤ R ∧ iv = .int .i64 i ∧ sv = .slice ia (runTo l a i).length ic ∧ Hid (RunAt w wr gU ia ic (runTo l a i))) (fun iv _ _ => R - (RowKit.intOf iv).toNat)
  case atStart => exact ⟨0, _, 0, Nat.zero_le _, rfl, rfl, HX.out⟩
  case round =>
    obtain ⟨i, ia, ic, hiR, rfl, rfl, HA⟩ := hrel
    by_cases hlt : i < R
    · have hd : decide ((i : Int) < (R : Int)) = true := decide_eq_true (by omega)
      have hd' : decide (i < R) = true := decide_eq_true hlt
      obtain ⟨q, hq⟩ : ∃ q, q = (a + i) % R := ⟨_, rfl⟩
      have hqi : ((a : Int) + (i : Int)).tmod (R : Int) = (q : Int) := by
        rw [Int.tmod_eq_emod_of_nonneg (by omega), hq]; push_cast; rfl
      have HQ : Hid (runTo l a (i + 1) = l.foldl (runStep q) (runTo l a i)) := by
        unfold Hid
        show runRow l (rowAt l a i) (runTo l a i) = _
        unfold rowAt runRow
        rw [← HR.out, ← hq]
      have hacc := hLB.out i hiR
      have hq16 : q < 16 := by have : q < R := (by rw [hq]; exact Nat.mod_lt _ (by omega)); omega
      obtain ⟨acc0, hacc0⟩ : ∃ x, x = runTo l a i := ⟨_, rfl⟩
      rw [← hacc0] at HA HQ hacc ⊢
      obtain ⟨c2, c1⟩ := HC2.out wr HA.out.b
      have hR0 : ¬ (R : Int) = 0 := by omega
      have hR0' : ¬ R = 0 := by omega
      clear hq hacc0
      go_upto_region 9 with fail
      clear c2 c1 hqi hR0 hR0' hd hd'
      go_loopw [31, 5] (fun kv sv wr => ∃ (k : Nat) (ia : Option Addr) (ic : Nat) (acc : List Ce), k ≤ LL ∧ kv = .int .i64 k ∧ sv = .slice ia acc.length ic ∧ acc.length ≤ 262144 + k ∧ Hid (acc = (l.take k).foldl (runStep q) acc0) ∧ Hid (RunAt w wr gU ia ic acc)) (fun kv _ _ => LL - (RowKit.intOf kv).toNat)
      case atStart => exact ⟨0, ia, ic, acc0, Nat.zero_le _, rfl, rfl, by omega, rfl, HA.out⟩
      case round =>
        clear HA
        obtain ⟨k, ia, ic, acc, hk, rfl, rfl, hal, HE, HA⟩ := hrel
        by_cases hltk : k < LL
        · have hd : decide (k < LL) = true := decide_eq_true hltk
          have hkl : k < l.length := by rw [← HLL.out]; exact hltk
          have hki : (k : Int) < (LL : Int) := by omega
          have hcr := RowG.kept HCR.out HA.out.b
          cases va with
          | none => have := CRow.nil hcr; rw [this] at hkl; simp at hkl
          | some AD =>
          obtain ⟨bb, off, rfl⟩ := CRow.addr hcr (by omega)
          obtain ⟨x0, x1, x2, x3⟩ := CRow.cells hcr hkl (Below.refl _ _)
          have hce := HOK.out.ce l[k] (List.getElem_mem hkl)
          have HNX : Hid ((l.take (k + 1)).foldl (runStep q) acc0 = runStep q acc l[k]) := by unfold Hid; rw [foldl_take hkl, ← HE.out]
          obtain ⟨c, hc⟩ : ∃ c, c = l[k] := ⟨_, rfl⟩
          rw [← hc] at x0 x1 x2 x3 hce HNX
          obtain ⟨id, r, s, o⟩ := c
          dsimp only at x0 x1 x2 x3
          have HCE := Lib.hid hce
          obtain ⟨gc, hgc⟩ : ∃ g, g = wr.heap.size := ⟨_, rfl⟩
          obtain ⟨Xc, hXc⟩ : ∃ x, x = wr.alloc (.cells #[.int .u32 (id : Nat), .int .i64 (r : Nat), .int .i64 (s : Nat), .int .i64 (o : Nat)] 48) := ⟨_, rfl⟩
          have hbc : Below wr.heap.size wr Xc := by rw [hXc]; exact (Below.refl _ _).alloc (Nat.le_refl _) _
          have HCB : Hid (Blk Xc gc #[.int .u32 (id : Nat), .int .i64 (r : Nat), .int .i64 (s : Nat), .int .i64 (o : Nat)] 48) := by unfold Hid; rw [hXc, hgc]; exact Blk.new wr _ _
          have HA2 := Lib.hid (HA.out.kept hbc)
          have HUC : Hid (gU ≠ gc) := by
            obtain ⟨cs, U, h1, _⟩ := HA.out.col
            have := h1.blk.lt
            unfold Hid; omega
          clear hcr hce hc hbc HA hkl HE
          go_upto_region 11 with fail
          rw [← hgc, ← hXc]
          clear hgc hXc x0 x1 x2 x3 hki hd
          have b0 := HCB.out.cell 0
          have b1 := HCB.out.cell 1
          have b2 := HCB.out.cell 2
          have b3 := HCB.out.cell 3
          simp at b0 b1 b2 b3
          by_cases hrq : r = q
          · have e1 : ((r : Int) == (q : Int)) = true := by simp; omega
            have e1' : (r == q) = true := by simp; omega
            obtain ⟨cs, U, hcol, hwd⟩ := HA2.out.col
            have hn10 := HOK.out.n10
            have h1024 : 2 ^ n ≤ 1024 := by have := Nat.pow_le_pow_right (n := 2) (by omega) hn10; simpa using this
            have hen : s + 2 ^ o ≤ 2 ^ n := HCE.out.en
            have hE := (spanE_le hn10 HCE.out.ord hen).2
            have FR := Lib.hid (isFree_any gU 0 s o _ cs U Xc hcol (Nat.le_trans HCE.out.ord hn10) HCE.out.al (by omega) hwd.lt)
            have HFR : Hid ((∀ j, spanF s ≤ j → j < spanE s o → U j &&& spanM s o = 0) ↔ accF acc s o = true) := by
              unfold Hid; rw [hwd.free HCE.out.al hE, accF_iff]
            have HRQ := Lib.hid hrq
            clear hrq h1024 hen hn10 hcol hwd hE
            go_wp2_with fail
            refine FR.out.mono ?_; rintro e w5 ⟨f, rfl, hf, b5⟩
            rw [HFR.out] at hf
            have HF := Lib.hid hf
            have HA5 := Lib.hid (HA2.out.kept b5)
            have HC5 := Lib.hid (HCB.out.kept b5)
            clear FR HFR hf b5 b0 b1 b2 b3 HA2 HCB
            cases f with
            | true =>
              have hfa := HF.out.1 rfl
              have HST : Hid (runStep q acc (id, r, s, o) = acc ++ [(id, r, s, o)]) := by
                unfold Hid runStep
                rw [if_pos ⟨HRQ.out, hfa⟩]
              obtain ⟨cs, U, hcol, hwd⟩ := HA5.out.col
              have hn10 := HOK.out.n10
              have h1024 : 2 ^ n ≤ 1024 := by have := Nat.pow_le_pow_right (n := 2) (by omega) hn10; simpa using this
              have hen : s + 2 ^ o ≤ 2 ^ n := HCE.out.en
              have AD := Lib.hid (add_any gU 0 s o _ cs U w5 hcol (Nat.le_trans HCE.out.ord hn10) HCE.out.al (by omega) hwd.lt)
              have HW6 : Hid (Words (orW U s o (spanE s o)) (CovA (acc ++ [(id, r, s, o)]))) := (hwd.or HCE.out.al).congr fun x => covA_snoc.symm
              obtain ⟨b0, b1, b2, b3, _, _, _, _⟩ := c4_of HC5.out
              clear hfa hcol hwd hn10 h1024 hen HF
              go_wp2_with fail
              refine AD.out.mono ?_; rintro e w6 ⟨rfl, cs', k1, _, _, k4⟩
              have HC6 : Hid (Blk w6 gc #[.int .u32 (id : Nat), .int .i64 (r : Nat), .int .i64 (s : Nat), .int .i64 (o : Nat)] 48) := HC5.out.chgC k4 (fun e => HUC.out e.symm)
              have HCOL := Lib.hid k1
              have HROW : Hid (w6.ownsRow w.heap.size 32 1 (.slice ia acc.length ic) acc.length (uL (ids acc))) := own_one HA5.out.row k4 HA5.out.ne
              have HB6 : Hid (Below w.heap.size w w6) := HA5.out.b.trans (k4.to_below HA5.out.b.size (fun k hk e => by have := HA5.out.lo; omega))
              have HLO := Lib.hid HA5.out.lo
              have HNE := Lib.hid HA5.out.ne
              have hidlen : (ids acc).length = acc.length := by unfold ids; rw [List.length_map]
              obtain ⟨b0', _, _, _, _, _, _, _⟩ := c4_of HC6.out
              clear b0 b1 b2 b3 k1 k4 AD HC5 HA5
              go_wp2_with (first | (at_builtin; refine wpList_app rfl _ _ 37 rfl w.heap.size 32 i0 _ 1 4 Try.underlying37 hi hz0 hz1 hz2 rfl (by decide) _ acc.length (uL (ids acc)) rfl (HROW.out.alloc _) _ 1 (uV id) rfl ?_ ?_ ?_ ?_ ?_ ?_; (exact src_u (Blk.new _ _ _)); (exact uV_one _); (unfold maxLen; omega); omega; (have := HB6.out.size; simp; omega); intro v8 w8 hown8 hgrow8 hat8; have HG8 := Lib.hid hgrow8; have HO8 := Lib.hid hown8; clear hgrow8 hown8 hat8))
              have HX8 : RunAt' w w8 gU v8 (acc ++ [(id, r, s, o)]) := runAt_app (c := (id, r, s, o)) HCOL.out HW6.out HROW.out HB6.out HLO.out HNE.out HO8.out HG8.out
              obtain ⟨a8, c8, rfl, HX9⟩ := HX8.open_
              have HX9' := Lib.hid HX9
              clear HX8 HX9 HCOL HROW HB6 b0' hidlen HO8 HG8
              go_wp2_with fail
              go_roundw
              case rel => exact ⟨k + 1, a8, c8, acc ++ [(id, r, s, o)], hltk, by go_num, by first | rfl | (rw [List.length_append]; rfl) | rw [List.length_append], by (rw [List.length_append]; show acc.length + 1 ≤ _; omega), by (unfold Hid; rw [HNX.out, HST.out]), HX9'.out⟩
              case measure => simp [RowKit.intOf]; omega
            | false =>
              have HST : Hid (runStep q acc (id, r, s, o) = acc) := by
                unfold Hid runStep
                rw [if_neg]
                rintro ⟨_, h⟩
                have := HF.out.2 h
                cases this
              go_wp2_with fail
              go_roundw
              case rel => exact ⟨k + 1, ia, ic, acc, hltk, by go_num, rfl, by omega, by (unfold Hid; rw [HNX.out, HST.out]), HA5.out⟩
              case measure => simp [RowKit.intOf]; omega
          · have e1 : ((r : Int) == (q : Int)) = false := by simp; omega
            have e1' : (r == q) = false := by simp; omega
            have HST : Hid (runStep q acc (id, r, s, o) = acc) := by
              unfold Hid runStep
              rw [if_neg]
              rintro ⟨h, _⟩
              exact hrq h
            go_wp2_with fail
            go_roundw
            case rel => exact ⟨k + 1, ia, ic, acc, hltk, by go_num, rfl, by omega, by (unfold Hid; rw [HNX.out, HST.out]), HA2.out⟩
            case measure => simp [RowKit.intOf]; omega
        · have hd : decide (k < LL) = false := decide_eq_false hltk
          have hki : ¬ (k : Int) < (LL : Int) := by omega
          have hkl : k = l.length := by have := HLL.out; omega
          have HEND : Hid (runTo l a (i + 1) = acc) := by unfold Hid; rw [HQ.out, HE.out, hkl, List.take_length]
          clear hkl
          go_wp2_with fail
          go_roundw
          case rel => exact ⟨i + 1, ia, ic, hlt, by go_num, by rw [HEND.out], by rw [HEND.out]; exact HA.out⟩
          case measure => simp [RowKit.intOf]; omega
    · have hd : decide ((i : Int) < (R : Int)) = false := decide_eq_false (by omega)
      have hd' : decide (i < R) = false := decide_eq_false hlt
      have HIR : Hid (runTo l a i = runsG l a) := by
        have : i = rowsG l := by have := HR.out; omega
        rw [this]; rfl
      have SO : Hid (Calls Try.prog 38 #[.slice ia (runTo l a i).length ic] wr (SortedTo wr w.heap.size (.slice ia (runTo l a i).length ic) (ids (runTo l a i)))) := by
        have hidl : (ids (runTo l a i)).length = (runTo l a i).length := by unfold ids; rw [List.length_map]
        refine HS.out w.heap.size _ _ wr (by rw [hidl, HIR.out]; exact HN.out) ?_
        show wr.ownsRow _ _ 1 _ (ids (runTo l a i)).length _
        rw [hidl]; exact HA.out.row
      go_wp2_with fail
      refine SO.out.mono ?_; rintro e w9 ⟨rfl, ⟨ys, h1, h2, h3⟩, h4⟩
      have HB9 : Hid (Below w.heap.size w w9) := HA.out.b.grown h4 HA.out.b.size (fun k hk => (HA.out.row.lt k hk).1)
      have H1 := Lib.hid h1
      have H2 := Lib.hid h2
      have H3 := Lib.hid h3
      clear h1 h2 h3 h4 SO
      go_wp2_with fail
      go_ret
      exact ⟨⟨_, ys, rfl, by rw [← HIR.out]; exact H1.out, H2.out, H3.out⟩, HB9.out⟩
end Go.Proofs.Ytfobapnncjjeiaa
