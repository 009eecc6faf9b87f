/-
  gangerlaw14.job: a job made.
  gangerlaw14.known.
-/
import Derived.Test.YtfabjlhepadkpaaWtFI
import Derived.Lib.SlBytesRow
import Derived.Test.YtfabjlhepadkpaaGrp
import Derived.Test.YtfabjlhepadkpaaWtJM
namespace Go.Proofs.Ytfabjlhepadkpaa
set_option linter.unusedVariables false

section
open Go Go.RowKit Go.Lib
/-- Cells written one behind the other. -/
def putL (cs : Array Value) : Nat → List Value → Array Value
  | _, [] => cs
  | o, v :: r => putL (cs.setIfInBounds o v) (o + 1) r
theorem Blk.setCells {g : Nat} {t : TypeId} : ∀ (vs : List Value) (o : Nat) {w : World} {cs : Array Value}, Blk w g cs t → Blk (w.setCells g o vs) g (putL cs o vs) t
  | [], _, _, _, h => h
  | v :: r, o, _, _, h => Blk.setCells r (o + 1) (h.set o v)
theorem Blk.setCellsO {g b : Nat} {t : TypeId} (hn : b ≠ g) : ∀ (vs : List Value) (o : Nat) {w : World} {cs : Array Value}, Blk w b cs t → Blk (w.setCells g o vs) b cs t
  | [], _, _, _, h => h
  | v :: r, o, _, _, h => Blk.setCellsO hn r (o + 1) (h.other (a := ⟨g, o, none⟩) hn v)
theorem Blk.there {w : World} {g o n : Nat} {cs : Array Value} {t : TypeId} (h : Blk w g cs t) (hn : o + n ≤ cs.size) : w.there g o n := fun j hj => by
  rw [h.cell, Array.getElem?_eq_getElem (by omega)]
  exact ⟨rfl, h.free _⟩
theorem below_setCells {u w : World} {g o : Nat} {vs : List Value} (h : Below u.heap.size u w) (hg : u.heap.size ≤ g) : Below u.heap.size u (w.setCells g o vs) :=
  h.grown (grownBy_setCells g vs o w) h.size (fun k hk => by injection hk with hk; omega)
def nmJ (id : Nat) : ByteArray := (⟨#[110]⟩ : ByteArray) ++ (⟨#[UInt8.ofNat id]⟩ : ByteArray)
theorem conv_byte (W : World) (b d : Nat) (hd : d < 256) (h : W.cell? ⟨b, 0, none⟩ = some (.int .u8 (d : Int))) :
    (convert 52 9 (.slice (some ⟨b, 0, none⟩) 1 1)).run Try.prog W = .ok (.string ⟨#[UInt8.ofNat d]⟩) W := by
  have e : (UInt8.ofNat d).toNat = d := by rw [UInt8.toNat_ofNat']; omega
  refine Lib.run_convert_whole (P := Try.prog) W 52 5 9 Try.underlying52 Try.underlying5 Try.underlying9 b 0 ⟨#[UInt8.ofNat d]⟩ (fun i hi => ?_) 1
  have hi' : i = 0 := by have : i < 1 := hi; omega
  subst hi'
  rw [h]
  show some (Value.int .u8 (d : Int)) = some (.int .u8 ((UInt8.ofNat d).toNat : Int))
  rw [e]
/-- The job that it makes. -/
def mkJ (id : Nat) (how : Int) (dv : Value) (nd : List NdM) : Jb := { zJb with id := id, idx := -1, name := nmJ id, acct := ⟨#[97]⟩, how := how, dv := dv, nd := nd }
def spC (id : Nat) (dv : Value) : List Value := [.string (nmJ id), .string ⟨#[97]⟩, .string ⟨#[]⟩, .string ⟨#[]⟩, .int .i64 0, .int .i64 0, .slice none 0 0, .int .i64 0, .bool false, dv, .int .i64 0, .int .i64 0, .bool false, .bool false, .string ⟨#[]⟩]
theorem put_sp (id : Nat) (how : Int) : putL (jbC { zJb with id := id, idx := -1, how := how }) 3 (spC id (.slice none 0 0)) = jbC (mkJ id how (.slice none 0 0) []) := by
  unfold spC mkJ
  generalize nmJ id = nm
  simp only [putL, jbC, jbV, zJb, List.setIfInBounds_toArray, List.set_cons_succ, List.set_cons_zero]
theorem put_dv (id : Nat) (how : Int) (dv : Value) (nd : List NdM) : (jbC (mkJ id how (.slice none 0 0) [])).setIfInBounds 12 dv = jbC (mkJ id how dv nd) := by
  unfold mkJ
  generalize nmJ id = nm
  simp only [jbC, jbV, zJb, List.setIfInBounds_toArray, List.set_cons_succ, List.set_cons_zero]
theorem Try.sizeSp : (Try.prog.info? 37).map (·.size) = some 15 := by kernel_rfl
theorem spC_one (id : Nat) {dv : Value} (h : dv.oneCell' = true) : ∀ u ∈ spC id dv, u.oneCell' = true := fun u hu => by
  unfold spC at hu
  generalize nmJ id = nm at hu
  simp only [List.mem_cons, List.not_mem_nil, or_false] at hu
  rcases hu with rfl | rfl | rfl | rfl | rfl | rfl | rfl | rfl | rfl | rfl | rfl | rfl | rfl | rfl | rfl
  all_goals first | rfl | exact h
theorem spC_len (id : Nat) (dv : Value) : (spC id dv).length = 15 := rfl
section
variable {ops : Array Oper} {rest : List Oper} {op : Oper} {a : Act} {w : World} {Q : Exit → Act → World → Prop}
theorem st_sp (hgd : op.guard = none) (x y : Operand) (ho : op.op = .store 37 x y) (g : Nat) (cs : Array Value) (t : TypeId) (hB : Blk w g cs t) (hsz : cs.size = 26) (hx : a.eval x = .pointer (some ⟨g, 3, none⟩)) (id : Nat) (dv : Value) (hdv : dv.oneCell' = true)
    (hy : a.eval y = .agg (spC id dv).toArray) (h : wpList Try.prog ops Q rest (a.put op.dst undef) (w.setCells g 3 (spC id dv))) : wpList Try.prog ops Q (op :: rest) a w := by
  have hl : (spC id dv).toArray.size = 15 := by rw [List.size_toArray, spC_len]
  refine wpList_store_mid hgd 37 x y ho g 3 (spC id dv).toArray hx hy (hB.there (by rw [hl, hsz]; decide)) (by rw [hl]; exact Try.sizeSp) (all_oneCell_toArray (spC_one id hdv)) ?_
  simpa using h
end
def NdsP (w : World) (kind : Int) (other : Nat) (dv : Value) (nd : List NdM) : Prop := NRw w dv nd ∧ (kind ≤ 0 → nd = []) ∧ (0 < kind → ∃ v, nd = [(kind, v, [other])])
theorem rowG_chg {α : Type} {s : Nat} {enc : α → List Value} {own : Nat → Prop} {w w' : World} {v : Value} {l : List α} (h : RowG s enc w v l) (hc : Chg own w w') (hv : ∀ b o n c, v = .slice (some ⟨b, o, none⟩) n c → ¬ own b) : RowG s enc w' v l := by
  rcases h with h | ⟨b, off, c, rfl, hl, h⟩
  · exact .inl h
  · refine .inr ⟨b, off, c, rfl, hl, fun i hi j u hu => ?_⟩
    have h0 := h i hi j u hu
    have hlt : b < w.heap.size := by
      unfold World.cell? at h0
      cases hb : w.heap[b]? with
      | none => rw [hb] at h0; cases h0
      | some o => exact (Array.getElem?_eq_some_iff.1 hb).1
    rw [World.cell?_of_block (hc.block b hlt (hv b off _ c rfl))]
    exact h0
theorem nrw_chg {own : Nat → Prop} {w w' : World} {v : Value} {l : List NdM} (h : NRw w v l) (hc : Chg own w w') (hv : ∀ b o n c, v = .slice (some ⟨b, o, none⟩) n c → ¬ own b) (hj : ∀ p ∈ l, ∀ b o n c, p.2.1 = .slice (some ⟨b, o, none⟩) n c → ¬ own b) : NRw w' v l :=
  ⟨rowG_chg h.row hc hv, fun p hp => rowG_chg (h.jobs p hp) hc (hj p hp), h.len, h.lens, h.small⟩
theorem nrw_setRow {w : World} {g gR gU : Nat} {kind : Int} {other : Nat} {cs : Array Value} (h : NRw w (.slice (some ⟨gR, 0, none⟩) 1 1) [(kind, .slice (some ⟨gU, 0, none⟩) 1 1, [other])]) (h1 : gR ≠ g) (h2 : gU ≠ g) :
    NRw (w.setRow g cs) (.slice (some ⟨gR, 0, none⟩) 1 1) [(kind, .slice (some ⟨gU, 0, none⟩) 1 1, [other])] :=
  nrw_chg h (chg_setRow (own := fun k => k = g) rfl cs) (fun b o n c e => by injection e with e; injection e with e; injection e with e; subst e; exact h1)
    (fun p hp b o n c e => by rw [List.mem_singleton] at hp; subst hp; injection e with e; injection e with e; injection e with e; subst e; exact h2)
theorem size_setCell (w : World) (a : Addr) (v : Value) : (w.setCell a v).heap.size = w.heap.size := by simp [World.setCell]
set_option maxRecDepth 100000 in
set_option maxHeartbeats 4000000 in
theorem job_any (id : Nat) (how kind : Int) (other : Nat) (w : World) (hid : id < 256) (ho : other < 4294967296) :
    Calls Try.prog 27 #[.int .u32 (id : Nat), .int .i64 how, .int .i64 kind, .int .u32 (other : Nat)] w fun e w' => (∃ dv nd, e = .returned (.agg (jbC (mkJ id how dv nd))) ∧ NdsP w' kind other dv nd) ∧ Below w.heap.size w w' := by
  obtain ⟨g8, hg8⟩ : ∃ g, g = w.heap.size := ⟨_, rfl⟩
  obtain ⟨X, hX⟩ : ∃ X, X = w.alloc (.cells (jbC zJb) 41) := ⟨_, rfl⟩
  have hbX : Below w.heap.size w X := by rw [hX]; exact (Below.refl _ _).alloc (Nat.le_refl _) _
  have hb8 : Blk X g8 (jbC zJb) 41 := by rw [hX, hg8]; exact Blk.new w _ _
  obtain ⟨J0, hJ0⟩ : ∃ J : Jb, J = { zJb with id := id, idx := -1, how := how } := ⟨_, rfl⟩
  have hs0 : JbS J0 := by rw [hJ0]; exact ⟨rfl, rfl⟩
  obtain ⟨g9, hg9⟩ : ∃ g, g = X.heap.size := ⟨_, rfl⟩
  obtain ⟨Y, hY⟩ : ∃ Y, Y = X.alloc (.cells (jbC J0) 41) := ⟨_, rfl⟩
  have hbY : Below X.heap.size X Y := by rw [hY]; exact (Below.refl _ _).alloc (Nat.le_refl _) _
  have hb9 : Blk Y g9 (jbC J0) 41 := by rw [hY, hg9]; exact Blk.new X _ _
  obtain ⟨Z, hZ⟩ : ∃ Z, Z = Y.alloc (.cells #[.int .u8 (id : Nat)] 5) := ⟨_, rfl⟩
  have hbZ : Below Y.heap.size Y Z := by rw [hZ]; exact (Below.refl _ _).alloc (Nat.le_refl _) _
  have hcv : (convert 52 9 (.slice (some ⟨Y.heap.size, 0, none⟩) 1 1)).run Try.prog (Y.alloc (.cells #[.int .u8 (id : Nat)] 5)) = .ok (.string ⟨#[UInt8.ofNat id]⟩) (Y.alloc (.cells #[.int .u8 (id : Nat)] 5)) := conv_byte _ _ id hid (by simp)
  have hu8 : IntKind.u8.wrap (id : Int) = (id : Int) := by rw [IntKind.wrap_u8]; omega
  obtain ⟨V, hV⟩ : ∃ V, V = Z.setCells g9 3 (spC id (.slice none 0 0)) := ⟨_, rfl⟩
  have hbV9 : Blk V g9 (jbC (mkJ id how (.slice none 0 0) [])) 41 := by
    rw [hV, ← put_sp, ← hJ0]; exact (hb9.kept hbZ).setCells _ _
  have h89 : g8 < X.heap.size := hb8.lt
  have hbV8 : Blk V g8 (jbC zJb) 41 := by
    rw [hV]; exact Blk.setCellsO (by omega) _ _ ((hb8.kept hbY).kept hbZ)
  have hbV : Below w.heap.size w V := by
    rw [hV]; exact below_setCells (below_next hbZ (below_next hbY hbX)) (by rw [hg9]; exact hbX.size)
  have HZ9 : Hid (Blk (Y.alloc (.cells #[.int .u8 (id : Nat)] 5)) g9 (jbC J0) 41) := by unfold Hid; rw [← hZ]; exact hb9.kept hbZ
  have HV := Lib.hid hV
  rw [hZ] at HV
  have HY := Lib.hid hY
  have HG9 := Lib.hid hg9
  have HX9 : Hid (w.heap.size ≤ X.heap.size) := hbX.size
  have hsz : ((⟨#[110]⟩ : ByteArray).size + (⟨#[UInt8.ofNat id]⟩ : ByteArray).size ≤ 2) := by show 1 + 1 ≤ 2; decide
  have HX := Lib.hid hX
  rw [zJbC_eq] at HX
  unfold zJbC at HX
  have HG8 := Lib.hid hg8
  have HJ0 := Lib.hid hJ0
  clear hX hg8 hJ0 hbX hb8 hbY hb9 hbZ hZ hV hY hg9
  go_enter Try.func27, Try.ntmps27
  go_upto_region 1 with fail
  rw [← HG8.out, ← HX.out]
  go_upto_region 2 with (first | (refine st_jb rfl _ _ rfl _ _ rfl rfl J0 (by rw [HJ0.out]; rfl) rfl hs0 ?_))
  rw [← HY.out, ← HG9.out]
  go_upto_region 3 with (first | (refine st_sp rfl _ _ rfl g9 _ _ HZ9.out (jbC_size _) rfl id (.slice none 0 0) rfl rfl ?_))
  rw [← HV.out]
  clear hcv hs0
  by_cases hk : kind > 0
  · have dk : decide (kind > 0) = true := decide_eq_true hk
    have dk' : decide (0 < kind) = true := decide_eq_true hk
    obtain ⟨gU, hgU⟩ : ∃ g, g = V.heap.size := ⟨_, rfl⟩
    obtain ⟨P, hP⟩ : ∃ P, P = V.alloc (.cells #[.int .u32 (other : Nat)] 23) := ⟨_, rfl⟩
    have hbP : Below V.heap.size V P := by rw [hP]; exact (Below.refl _ _).alloc (Nat.le_refl _) _
    have hbU : Blk P gU #[.int .u32 (other : Nat)] 23 := by rw [hP, hgU]; exact Blk.new _ _ _
    obtain ⟨gN, hgN⟩ : ∃ g, g = P.heap.size := ⟨_, rfl⟩
    obtain ⟨M, hM⟩ : ∃ M, M = P.alloc (.cells #[.int .i64 kind, .slice (some ⟨gU, 0, none⟩) 1 1] 58) := ⟨_, rfl⟩
    have hbM : Below P.heap.size P M := by rw [hM]; exact (Below.refl _ _).alloc (Nat.le_refl _) _
    have hbN : Blk M gN #[.int .i64 kind, .slice (some ⟨gU, 0, none⟩) 1 1] 58 := by rw [hM, hgN]; exact Blk.new _ _ _
    obtain ⟨gR, hgR⟩ : ∃ g, g = M.heap.size := ⟨_, rfl⟩
    have h9M : Blk M g9 (jbC (mkJ id how (.slice none 0 0) [])) 41 := (hbV9.kept hbP).kept hbM
    have hg9l : g9 < V.heap.size := hbV9.lt
    obtain ⟨R, hR⟩ : ∃ R, R = M.setCell ⟨g9, 12, none⟩ (.slice (some ⟨gR, 0, none⟩) 1 1) := ⟨_, rfl⟩
    have h9R : Blk R g9 (jbC (mkJ id how (.slice (some ⟨gR, 0, none⟩) 1 1) [(kind, .slice (some ⟨gU, 0, none⟩) 1 1, [other])])) 41 := by
      rw [hR, ← put_dv]; exact h9M.set 12 _
    have h8R : Blk R g8 (jbC zJb) 41 := by
      rw [hR]; exact ((hbV8.kept hbP).kept hbM).other (a := ⟨g9, 12, none⟩) (by have := HG9.out; show g8 ≠ g9; omega) _
    have huR : Blk R gU #[.int .u32 (other : Nat)] 23 := by
      rw [hR]; exact (hbU.kept hbM).other (a := ⟨g9, 12, none⟩) (by show gU ≠ g9; omega) _
    have hRs : R.heap.size = gR := by rw [hR, hgR]; exact size_setCell _ _ _
    obtain ⟨T, hT⟩ : ∃ T, T = R.alloc (.cells #[.int .i64 kind, .slice (some ⟨gU, 0, none⟩) 1 1] 58) := ⟨_, rfl⟩
    have hbT' : Below R.heap.size R T := by rw [hT]; exact (Below.refl _ _).alloc (Nat.le_refl _) _
    have hrT : Blk T gR #[.int .i64 kind, .slice (some ⟨gU, 0, none⟩) 1 1] 58 := by rw [hT, ← hRs]; exact Blk.new _ _ _
    have h9T := h9R.kept hbT'
    have h8T := h8R.kept hbT'
    have huT := huR.kept hbT'
    have hND : NRw T (.slice (some ⟨gR, 0, none⟩) 1 1) [(kind, .slice (some ⟨gU, 0, none⟩) 1 1, [other])] := by
      refine ⟨.inr ⟨gR, 0, 1, rfl, by simp, fun i hi j u hu => ?_⟩, fun p hp => ?_, by simp, fun p hp => ?_, fun p hp j hj => ?_⟩
      · have : i = 0 := by simp at hi; omega
        subst this
        rw [hrT.cell]
        simpa [ndV] using hu
      · rw [List.mem_singleton] at hp; subst hp
        refine .inr ⟨gU, 0, 1, rfl, by simp, fun i hi j u hu => ?_⟩
        have : i = 0 := by simp at hi; omega
        subst this
        rw [huT.cell]
        simpa [uV] using hu
      · rw [List.mem_singleton] at hp; subst hp; simp
      · rw [List.mem_singleton] at hp; subst hp
        have : j = other := by simpa using hj
        omega
    have hbR : Below w.heap.size w R := by
      rw [hR]
      exact (below_next hbM (below_next hbP hbV)).setCell (p := ⟨g9, 12, none⟩) (by have := HG9.out; have := HX9.out; show w.heap.size ≤ g9; omega) _
    have hbT := below_next hbT' hbR
    have z0 : M.cell? ⟨gN, 0, none⟩ = some (.int .i64 kind) := by rw [hbN.cell]; rfl
    have z1 : M.cell? ⟨gN, 1, none⟩ = some (.slice (some ⟨gU, 0, none⟩) 1 1) := by rw [hbN.cell]; rfl
    have z12 : M.cell? ⟨g9, 12, none⟩ = some (.slice none 0 0) := blk_jb h9M 12
    have f12 : M.frozen? ⟨g9, 12, none⟩ = false := h9M.free _
    have hgm : g9 < M.heap.size := h9M.lt
    have hgm2 : g9 ≠ M.heap.size := by omega
    have HP := Lib.hid hP
    have HGU := Lib.hid hgU
    have HK := Lib.hid hk
    have HGR8 : Hid (g8 < gU ∧ gU < gR) := ⟨by have := HG9.out; have := hg9l; omega, by rw [hgR, hM, hP, hgU]; simp; omega⟩
    have HM := Lib.hid hM
    have HGN : Hid (gN = gU + 1) := by unfold Hid; rw [hgN, hP, hgU]; simp
    have HRR := Lib.hid hR
    have HGR := Lib.hid hgR
    have HT := Lib.hid hT
    have HND := Lib.hid hND
    have HBT := Lib.hid hbT
    have HRN := Lib.hid (range_blk h9T)
    clear hP hgU hM hgN hR hgR hT hbP hbU hbM hbN hbR h9R h9M h8R huR hRs hbT' hrT huT hND hbT hg9l h89 hbV8 hbV9 hbV hk hsz hu8
    have hone : JbS (mkJ id how (.slice (some ⟨gR, 0, none⟩) 1 1) [(kind, .slice (some ⟨gU, 0, none⟩) 1 1, [other])]) := ⟨rfl, rfl⟩
    obtain ⟨J2, hJ2⟩ : ∃ J, J = mkJ id how (.slice (some ⟨gR, 0, none⟩) 1 1) [(kind, .slice (some ⟨gU, 0, none⟩) 1 1, [other])] := ⟨_, rfl⟩
    rw [← hJ2] at hone HRN h9T
    have HJ2 := Lib.hid hJ2
    clear hJ2
    go_upto_region 4 with fail
    go_upto_region 5 with fail
    rw [← HGU.out, ← HP.out, ← HM.out, ← HGN.out]
    go_upto_region 6 with fail
    rw [← HGR.out, ← HRR.out, ← HT.out]
    go_wp2_with (first | (refine ld_jb rfl _ rfl _ _ rfl _ HRN.out ?_) | (refine st_jbo rfl _ _ rfl g8 _ _ h8T rfl J2 rfl rfl hone ?_))
    refine bodyPost_ret (v := .agg (jbC J2)) (res_jb1 rfl _ _ g8 J2 _ rfl (h8T.setRow _)) rfl ⟨⟨_, _, by rw [HJ2.out], ⟨?_, fun h => absurd HK.out (by omega), fun _ => ⟨_, rfl⟩⟩⟩, below_setRow HBT.out (by rw [HG8.out]; exact Nat.le_refl _) _⟩
    exact nrw_setRow HND.out (by have := HGR8.out; omega) (by have := HGR8.out; omega)
  · have dk : decide (kind > 0) = false := decide_eq_false hk
    have dk' : decide (0 < kind) = false := decide_eq_false hk
    have HK := Lib.hid hk
    have HRN := Lib.hid (range_blk hbV9)
    have hone : JbS (mkJ id how (.slice none 0 0) []) := ⟨rfl, rfl⟩
    obtain ⟨J2, hJ2⟩ : ∃ J, J = mkJ id how (.slice none 0 0) [] := ⟨_, rfl⟩
    rw [← hJ2] at hone HRN
    have HJ2 := Lib.hid hJ2
    have HBV := Lib.hid hbV
    clear hJ2 hk hbV9 hbV
    go_upto_region 6 with fail
    go_wp2_with (first | (refine ld_jb rfl _ rfl _ _ rfl _ HRN.out ?_) | (refine st_jbo rfl _ _ rfl g8 _ _ hbV8 rfl J2 rfl rfl hone ?_))
    refine bodyPost_ret (v := .agg (jbC J2)) (res_jb1 rfl _ _ g8 J2 _ rfl (hbV8.setRow _)) rfl ⟨⟨_, _, by rw [HJ2.out], ⟨?_, fun _ => rfl, fun h => absurd HK.out (by omega)⟩⟩, below_setRow HBV.out (by rw [HG8.out]; exact Nat.le_refl _) _⟩
    exact ⟨RowG.none _ _ _, (fun p hp => by cases hp), Nat.zero_le _, (fun p hp => by cases hp), (fun p hp => by cases hp)⟩
end

section
open Go Go.RowKit Go.Lib
theorem Try.infoJb : (Try.prog.info? 41).map (fun i => (i.zero, i.size)) = some (some (.agg zJbC), 26) := by kernel_rfl
theorem bs_jobs {ops : Array Oper} {rest : List Oper} {o : Oper} {a : Act} {w : World} {Q : Exit → Act → World → Prop} (hg : o.guard = none) (len : Nat) (parts : Array (Nat × Operand)) (ho : o.op = .buildSlice 22 len parts)
    (cells : Array Value) (hpos : 0 < len) (hsm : len ≤ 1000)
    (hf : Instr.fill (fun i => some (i * 26, 26)) ((Array.range (len * 26)).map (zJbC[· % 26]!)) (parts.map fun (i, x) => (i, a.eval x)).toList = some cells)
    (h : wpList Try.prog ops Q rest (a.put o.dst (.slice (some ⟨w.heap.size, 0, none⟩) len len)) (w.alloc (.cells cells 41))) : wpList Try.prog ops Q (o :: rest) a w := by
  have hi := Try.infoJb
  cases hie : Try.prog.info? 41 with
  | none => rw [hie] at hi; cases hi
  | some ie =>
    rw [hie] at hi
    simp only [Option.map_some, Option.some.injEq, Prod.mk.injEq] at hi
    obtain ⟨hz, hs⟩ := hi
    refine wpList_buildSlice hg 22 41 len parts ho cells ie (.agg zJbC) Try.underlying22 hie hz (by rw [hs]; omega) (by rw [hs]; omega) ?_ h
    rw [hs]
    exact hf
/-- The example's jobs. -/
def exJ (d1 d2 d3 d4 : Value) (n2 n3 n4 : Value) : List Jb := [mkJ 1 5 d1 [], mkJ 2 1 d2 [(2, n2, [1])], mkJ 3 1 d3 [(3, n3, [1])], mkJ 4 1 d4 [(2, n4, [3])]]
section
variable (d1 d2 d3 d4 n2 n3 n4 : Value)
theorem ex_ok : okJs (exJ d1 d2 d3 d4 n2 n3 n4) = true := rfl
theorem ex_allW : allW (exJ d1 d2 d3 d4 n2 n3 n4) = [(1, 3), (2, 1), (3, 1), (4, 1)] := rfl
theorem ex_s1 : sayJ (exJ d1 d2 d3 d4 n2 n3 n4) (mkJ 1 5 d1 []) 0 = 0 := rfl
theorem ex_s2 : sayJ (exJ d1 d2 d3 d4 n2 n3 n4) (mkJ 2 1 d2 [(2, n2, [1])]) 0 = 2 := by
  unfold sayJ
  rw [ex_allW]
  generalize aloneJ _ _ = al
  have e : ∀ al : Bool, sayB false al [(1, 3), (2, 1), (3, 1), (4, 1)] [(2, [1])] = 2 := by decide
  have e2 : sayB (mkJ 2 1 d2 [(2, n2, [1])]).any al [(1, 3), (2, 1), (3, 1), (4, 1)] (ndsOf (mkJ 2 1 d2 [(2, n2, [1])]).nd) = 2 := e al
  rw [e2, if_pos (by rfl), if_neg]
  rintro ⟨_, h | h | h⟩
  · exact absurd (show (1 : Int) = 2 from h) (by decide)
  · exact absurd (show (0 : Int) > 0 from h) (by decide)
  · exact absurd (show true = false from h) (by decide)
theorem ex_s3 : sayJ (exJ d1 d2 d3 d4 n2 n3 n4) (mkJ 3 1 d3 [(3, n3, [1])]) 0 = 3 := by
  unfold sayJ
  rw [ex_allW]
  generalize aloneJ _ _ = al
  have e : ∀ al : Bool, sayB false al [(1, 3), (2, 1), (3, 1), (4, 1)] [(3, [1])] = 3 := by decide
  have e2 : sayB (mkJ 3 1 d3 [(3, n3, [1])]).any al [(1, 3), (2, 1), (3, 1), (4, 1)] (ndsOf (mkJ 3 1 d3 [(3, n3, [1])]).nd) = 3 := e al
  rw [e2, if_pos (by rfl), if_neg]
  rintro ⟨h, _⟩
  exact absurd h (by decide)
theorem ex_s4 : sayJ (exJ d1 d2 d3 d4 n2 n3 n4) (mkJ 4 1 d4 [(2, n4, [3])]) 0 = 1 := by
  unfold sayJ
  rw [ex_allW]
  generalize aloneJ _ _ = al
  have e : ∀ al : Bool, sayB false al [(1, 3), (2, 1), (3, 1), (4, 1)] [(2, [3])] = 1 := by decide
  have e2 : sayB (mkJ 4 1 d4 [(2, n4, [3])]).any al [(1, 3), (2, 1), (3, 1), (4, 1)] (ndsOf (mkJ 4 1 d4 [(2, n4, [3])]).nd) = 1 := e al
  rw [e2, if_pos (by rfl), if_neg]
  rintro ⟨h, _⟩
  exact absurd h (by decide)
theorem ex_ready : listJ (exJ d1 d2 d3 d4 n2 n3 n4) 0 2 = [2] := by
  unfold listJ; rw [if_pos (ex_ok ..)]
  unfold saysL
  obtain ⟨l, hl⟩ : ∃ l, l = exJ d1 d2 d3 d4 n2 n3 n4 := ⟨_, rfl⟩
  have s1 := ex_s1 d1 d2 d3 d4 n2 n3 n4
  have s2 := ex_s2 d1 d2 d3 d4 n2 n3 n4
  have s3 := ex_s3 d1 d2 d3 d4 n2 n3 n4
  have s4 := ex_s4 d1 d2 d3 d4 n2 n3 n4
  rw [← hl] at s1 s2 s3 s4 ⊢
  have e : l.filter (fun j => decide (sayJ l j 0 = 2)) = [mkJ 2 1 d2 [(2, n2, [1])]] := by
    conv => lhs; arg 2; rw [hl]
    unfold exJ
    simp [s1, s2, s3, s4]
  rw [e]; rfl
theorem ex_never : listJ (exJ d1 d2 d3 d4 n2 n3 n4) 0 3 = [3] := by
  unfold listJ; rw [if_pos (ex_ok ..)]
  unfold saysL
  obtain ⟨l, hl⟩ : ∃ l, l = exJ d1 d2 d3 d4 n2 n3 n4 := ⟨_, rfl⟩
  have s1 := ex_s1 d1 d2 d3 d4 n2 n3 n4
  have s2 := ex_s2 d1 d2 d3 d4 n2 n3 n4
  have s3 := ex_s3 d1 d2 d3 d4 n2 n3 n4
  have s4 := ex_s4 d1 d2 d3 d4 n2 n3 n4
  rw [← hl] at s1 s2 s3 s4 ⊢
  have e : l.filter (fun j => decide (sayJ l j 0 = 3)) = [mkJ 3 1 d3 [(3, n3, [1])]] := by
    conv => lhs; arg 2; rw [hl]
    unfold exJ
    simp [s1, s2, s3, s4]
  rw [e]; rfl
theorem ex_four : SayJ (exJ d1 d2 d3 d4 n2 n3 n4) 4 0 = 1 := by
  rw [SayJ_nth (ex_ok ..) (i := 3) (by show 3 < 4; decide)]; exact ex_s4 ..
theorem ex_tail : chkJ ((exJ d1 d2 d3 d4 n2 n3 n4).drop 1) = 2 := rfl
end
theorem rowG_drop {α : Type} {s : Nat} {enc : α → List Value} {w : World} {b o n c : Nat} {l : List α} (h : RowG s enc w (.slice (some ⟨b, o, none⟩) n c) l) {k : Nat} (hk : k < l.length) (c' : Nat) : RowG s enc w (.slice (some ⟨b, o + k * s, none⟩) (n - k) c') (l.drop k) := by
  rcases h with ⟨rfl, _⟩ | ⟨b', off, c2, e, hl, h⟩
  · simp at hk
  · injection e with e1 e2 e3
    injection e1 with e1; injection e1 with e4 e5
    subst e4; subst e5; subst e2
    refine .inr ⟨b, o + k * s, c', by rw [List.length_drop], by rw [List.length_drop]; omega, fun i hi j u hu => ?_⟩
    rw [List.length_drop] at hi
    rw [List.getElem_drop] at hu
    have := h (k + i) (by omega) j u hu
    rw [show o + k * s + i * s + j = o + (k + i) * s + j by rw [Nat.add_mul]; omega]
    exact this
theorem JRw.drop {w : World} {b o n c : Nat} {l : List Jb} (h : JRw w (.slice (some ⟨b, o, none⟩) n c) l) {k : Nat} (hk : k < l.length) (c' : Nat) : JRw w (.slice (some ⟨b, o + k * 26, none⟩) (n - k) c') (l.drop k) :=
  ⟨rowG_drop h.row hk c', fun j hj => h.nds j (List.mem_of_mem_drop hj), fun j hj => h.als j (List.mem_of_mem_drop hj), fun j hj => h.ok j (List.mem_of_mem_drop hj), by rw [List.length_drop]; have := h.len; omega⟩
theorem NdsP.kept {w w' : World} {kind : Int} {other : Nat} {dv : Value} {nd : List NdM} (h : NdsP w kind other dv nd) (hb : Below w.heap.size w w') : NdsP w' kind other dv nd := ⟨h.1.kept hb, h.2⟩
theorem mkJ_ok (id : Nat) (how : Int) (dv : Value) (nd : List NdM) (h1 : id < 4294967296) (h2 : (Lit.int .i64 how).wf = true) : JbOk (mkJ id how dv nd) :=
  ⟨h1, by show (0 : Nat) < _; decide, fun z hz => by
    unfold mkJ zJb at hz
    simp only [List.mem_cons, List.not_mem_nil, or_false] at hz
    rcases hz with rfl | rfl | rfl | rfl | rfl | rfl | rfl | rfl | rfl | rfl | rfl | rfl | rfl | rfl
    all_goals first | exact h2 | decide, by show 2 ≤ maxLen; decide, by show 1 ≤ maxLen; decide, by show 0 ≤ maxLen; decide, by show 0 ≤ maxLen; decide, by show 0 ≤ maxLen; decide⟩
set_option maxRecDepth 100000 in
set_option maxHeartbeats 4000000 in
theorem known14_any (w : World) : Calls Try.prog 11 #[] w fun e w' => e = .returned (.bool true) ∧ Below w.heap.size w w' := by
  have C1 := Lib.hid (fun w : World => job_any 1 5 0 0 w (by decide) (by decide))
  have C2 := Lib.hid (fun w : World => job_any 2 1 2 1 w (by decide) (by decide))
  have C3 := Lib.hid (fun w : World => job_any 3 1 3 1 w (by decide) (by decide))
  have C4 := Lib.hid (fun w : World => job_any 4 1 2 3 w (by decide) (by decide))
  go_enter Try.func11, Try.ntmps11
  go_wp2_with fail
  refine (C1.out w).mono ?_; rintro e w1 ⟨⟨d1, m1, rfl, h1⟩, b1⟩
  go_wp2_with fail
  refine (C2.out w1).mono ?_; rintro e w2 ⟨⟨d2, m2, rfl, h2⟩, b2⟩
  go_wp2_with fail
  refine (C3.out w2).mono ?_; rintro e w3 ⟨⟨d3, m3, rfl, h3⟩, b3⟩
  go_wp2_with fail
  refine (C4.out w3).mono ?_; rintro e w4 ⟨⟨d4, m4, rfl, h4⟩, b4⟩
  obtain rfl : m1 = [] := h1.2.1 (by decide)
  obtain ⟨n2, rfl⟩ := h2.2.2 (by decide)
  obtain ⟨n3, rfl⟩ := h3.2.2 (by decide)
  obtain ⟨n4, rfl⟩ := h4.2.2 (by decide)
  obtain ⟨g, hg⟩ : ∃ g, g = w4.heap.size := ⟨_, rfl⟩
  obtain ⟨W, hW⟩ : ∃ W, W = w4.alloc (.cells (jbV (mkJ 1 5 d1 []) ++ (jbV (mkJ 2 1 d2 [(2, n2, [1])]) ++ (jbV (mkJ 3 1 d3 [(3, n3, [1])]) ++ jbV (mkJ 4 1 d4 [(2, n4, [3])])))).toArray 41) := ⟨_, rfl⟩
  have hbW : Below w4.heap.size w4 W := by rw [hW]; exact (Below.refl _ _).alloc (Nat.le_refl _) _
  have hJ : JRw W (.slice (some ⟨g, 0, none⟩) 4 4) (exJ d1 d2 d3 d4 n2 n3 n4) := by
    have hbk : Blk W g (jbV (mkJ 1 5 d1 []) ++ (jbV (mkJ 2 1 d2 [(2, n2, [1])]) ++ (jbV (mkJ 3 1 d3 [(3, n3, [1])]) ++ jbV (mkJ 4 1 d4 [(2, n4, [3])])))).toArray 41 := by rw [hW, hg]; exact Blk.new _ _ _
    refine ⟨rowG_of_own (base := 0) (e := 41) jbV_len ?_, ?_, ?_, ?_, by show 4 ≤ 1048576; decide⟩
    · have := own_of_blk (base := 0) (n := 4) (s := 26) hbk (Nat.zero_le _) rfl (by decide)
      exact this
    · intro j hj
      simp only [exJ, List.mem_cons, List.not_mem_nil, or_false] at hj
      rcases hj with rfl | rfl | rfl | rfl
      · exact ((((h1.kept b2).kept b3).kept b4).kept hbW).1
      · exact (((h2.kept b3).kept b4).kept hbW).1
      · exact ((h3.kept b4).kept hbW).1
      · exact (h4.kept hbW).1
    · intro j hj
      simp only [exJ, List.mem_cons, List.not_mem_nil, or_false] at hj
      rcases hj with rfl | rfl | rfl | rfl <;> exact GRow.none _
    · intro j hj
      simp only [exJ, List.mem_cons, List.not_mem_nil, or_false] at hj
      rcases hj with rfl | rfl | rfl | rfl <;> exact mkJ_ok _ _ _ _ (by decide) (by decide)
  have HBW : Hid (Below w.heap.size w W) := below_next hbW (below_next b4 (below_next b3 (below_next b2 b1)))
  have HRY : Hid (listJ (exJ d1 d2 d3 d4 n2 n3 n4) 0 2 = [2]) := ex_ready ..
  have HNV : Hid (listJ (exJ d1 d2 d3 d4 n2 n3 n4) 0 3 = [3]) := ex_never ..
  have HFO : Hid (SayJ (exJ d1 d2 d3 d4 n2 n3 n4) 4 0 = 1) := ex_four ..
  have HTL : Hid (chkJ ((exJ d1 d2 d3 d4 n2 n3 n4).drop 1) = 2) := ex_tail ..
  have HHW : Hid ((exJ d1 d2 d3 d4 n2 n3 n4)[0]? = some (mkJ 1 5 d1 [])) := rfl
  have hlen : (exJ d1 d2 d3 d4 n2 n3 n4).length = 4 := rfl
  have HLE := Lib.hid hlen
  clear hlen h1 h2 h3 h4 b1 b2 b3 b4 C1 C2 C3 C4
  go_upto_region 2 with (first | (refine bs_jobs rfl 4 _ rfl ((jbV (mkJ 1 5 d1 []) ++ jbV (mkJ 2 1 d2 [(2, n2, [1])]) ++ jbV (mkJ 3 1 d3 [(3, n3, [1])]) ++ jbV (mkJ 4 1 d4 [(2, n4, [3])])).toArray) (by decide) (by decide) (by as_aux_lemma => kernel_rfl) ?_))
  rw [← hW, ← hg]
  obtain ⟨L, hL⟩ : ∃ L, L = exJ d1 d2 d3 d4 n2 n3 n4 := ⟨_, rfl⟩
  rw [← hL] at hJ HRY HNV HFO HTL HLE HHW
  have HJ := Lib.hid hJ
  clear hW hg hbW hJ hL
  go_wp2_with fail
  refine (ready_any _ L 0 W HJ.out).mono ?_; rintro e w6 ⟨⟨v6, rfl, ho6⟩, b6⟩
  rw [HRY.out] at ho6
  obtain ⟨a6, c6, rfl⟩ := own_slice ho6
  obtain ⟨p6, q6, rfl, hc6⟩ := RowG.at (urow_of_own ho6) (show 0 < [2].length by decide)
  have HB6 := Lib.hid (below_next b6 HBW.out)
  have HJ6 := Lib.hid (HJ.out.kept b6)
  clear b6 ho6
  go_wp2_with fail
  refine (never_any _ L w6 HJ6.out).mono ?_; rintro e w7 ⟨⟨v7, rfl, ho7⟩, b7⟩
  rw [HNV.out] at ho7
  obtain ⟨a7, c7, rfl⟩ := own_slice ho7
  obtain ⟨p7, q7, rfl, hc7⟩ := RowG.at (urow_of_own ho7) (show 0 < [3].length by decide)
  have x6 : w7.cell? ⟨p6, q6, none⟩ = some (.int .u32 2) := hc6 w7 b7 0 _ rfl
  have x7 : w7.cell? ⟨p7, q7, none⟩ = some (.int .u32 3) := hc7 w7 (Below.refl _ _) 0 _ rfl
  have HB7 := Lib.hid (below_next b7 HB6.out)
  have HJ7 := Lib.hid (HJ6.out.kept b7)
  clear b7 ho7 hc6 hc7
  go_wp2_with fail
  refine (Say14_any _ L 4 0 w7 HJ7.out (by decide)).mono ?_; rintro e w8 ⟨rfl, b8⟩
  rw [HFO.out]
  have HB8 := Lib.hid (below_next b8 HB7.out)
  have HJ8 := Lib.hid (HJ7.out.kept b8)
  clear b8 x6 x7
  have hdr : JRw w8 (.slice (some ⟨g, 26, none⟩) 3 3) (L.drop 1) := by
    have := JRw.drop HJ8.out (k := 1) (by rw [HLE.out]; decide) 3
    exact this
  go_wp2_with fail
  refine (wcheck_any _ (L.drop 1) w8 hdr).mono ?_; rintro e w9 ⟨rfl, b9⟩
  rw [HTL.out]
  have HB9 := Lib.hid (below_next b9 HB8.out)
  have HJ9 := Lib.hid (HJ8.out.kept b9)
  clear b9 hdr
  obtain ⟨g', o', e', hrg⟩ := JRw.at HJ9.out (Below.refl _ _) (k := 0) (by rw [HLE.out]; decide)
  injection e' with e'; injection e' with e1 e2; subst e1; subst e2
  have hL0 : L[0]'(by rw [HLE.out]; decide) = mkJ 1 5 d1 [] := by
    have := HHW.out
    rw [List.getElem?_eq_getElem (by rw [HLE.out]; decide)] at this
    injection this
  rw [hL0] at hrg
  have hrg' : w9.rangeAt g 0 (jbV (mkJ 1 5 d1 [])) := hrg
  go_wp2_with (first | (refine ld_jbg (by rfl) _ rfl _ _ rfl _ hrg' ?_))
  refine (how_any (mkJ 1 5 d1 []) w9).mono ?_; rintro e w10 ⟨rfl, b10⟩
  have hh : howJ (mkJ 1 5 d1 []).how = 3 := rfl
  rw [hh]
  have HB10 := Lib.hid (below_next b10 HB9.out)
  clear b10 hrg hrg'
  go_wp2_with fail
  go_ret
  exact ⟨rfl, HB10.out⟩
end

end Go.Proofs.Ytfabjlhepadkpaa
