
/-
  Contracts of package gangerref01's functions: told, Add, Sub, Product.
-/
import Derived.Test.YtbnlmeegepgioaaDoorNumRef2
namespace Go.Proofs.YtbnlmeegepgioaaDoor
open Go.ChangeShapes Go.WideShapes Go.ChangeAt Go.RowKit
set_option linter.unusedVariables false

theorem told_any (m : Bool) (N : Nat) (w : World) (h : Fits N) :
    Calls Tryd.prog 45 #[.agg #[.bool m, .int .u64 (hiW N), .int .u64 (loW N)]] w
      fun e w' => e = .returned (.tuple #[.int .i64 (fitV (sg m N)), .int .i64 (fitE (sg m N))]) ∧ Below w.heap.size w w' := by
  by_cases c : I64 (sg m N)
  · have H : Hid (fitB (sg m N) = true) := by show _ = _; simp [fitB, c]
    have E := Lib.hid (fitE_in c)
    clear c
    go_enter Tryd.func45, Tryd.ntmps45
    go_wp2_with (go_at_call 50; refine (Narrow_any _ _ _ h).mono ?_; rintro e w1 ⟨rfl, hb⟩; rw [H.out]; have hB : Below w.heap.size w w1 := Below.trans (by go_grown) (hb.mono (by simp <;> omega)))
    go_ret2
    exact ⟨ret_tup2 rfl E.out.symm, hB⟩
  · have H : Hid (fitB (sg m N) = false) := by show _ = _; simp [fitB, c]
    have E := Lib.hid (fitE_out c)
    have V := Lib.hid (fitV_out c)
    clear c
    go_enter Tryd.func45, Tryd.ntmps45
    go_wp2_with (go_at_call 50; refine (Narrow_any _ _ _ h).mono ?_; rintro e w1 ⟨rfl, hb⟩; rw [H.out]; have hB : Below w.heap.size w w1 := Below.trans (by go_grown) (hb.mono (by simp <;> omega)))
    go_ret2
    exact ⟨ret_tup2 V.out.symm E.out.symm, hB⟩


/-- A number with a sign lies in a block. -/
def W3 (m : Bool) (N : Nat) : Array Value := #[.bool m, .int .u64 (hiW N), .int .u64 (loW N)]
def ProdRel (W0 : World) (base : Nat) (A B : Nat) (n : Value) (wr : World) : Prop :=
  ∃ k p S : Nat, n = .int .u64 k ∧ k ≤ B ∧ p * k ≤ B ∧ S + A * p * k = A * B ∧ Below (base + 1 + 1 + 1) W0 wr ∧ Blk wr (base + 1 + 1 + 1) (W3 false S) 74 ∧ Blk wr (base + 1 + 1 + 1 + 1) (W3 false (A * p)) 74

theorem prod_step (A B p k S : Nat) (h1 : p * k ≤ B) (h2 : S + A * p * k = A * B) :
    (p + p) * (k / 2) ≤ B ∧ A * (p + p) = A * p + A * p ∧ (k % 2 = 1 → S + A * p + A * (p + p) * (k / 2) = A * B) ∧ (k % 2 = 0 → S + A * (p + p) * (k / 2) = A * B) := by
  obtain ⟨q, r, hq, hr⟩ : ∃ q r, k = 2 * q + r ∧ r < 2 := ⟨k / 2, k % 2, by omega, by omega⟩
  have e : k / 2 = q := by omega
  rw [e]
  have e1 : (p + p) * q = p * (2 * q) := by rw [← Nat.two_mul, Nat.mul_comm 2 p, Nat.mul_assoc]
  have e2 : A * (p + p) * q = A * p * (2 * q) := by rw [Nat.mul_assoc, e1, Nat.mul_assoc]
  have e3 : p * k = p * (2 * q) + p * r := by rw [hq, Nat.mul_add]
  have e4 : A * p * k = A * p * (2 * q) + A * p * r := by rw [hq, Nat.mul_add]
  refine ⟨by rw [e1]; have := Nat.zero_le (p * r); omega, Nat.mul_add _ _ _, fun h => ?_, fun h => ?_⟩
  · have : r = 1 := by omega
    subst this; rw [e2]; omega
  · have : r = 0 := by omega
    subst this; rw [e2]; omega

def neB (a b : Bool) : Bool := a != b
theorem Product_any (a b : Bool) (A B : Nat) (w : World) (hA : A ≤ 9223372036854775808) (hB : B ≤ 9223372036854775808) :
    Calls Tryd.prog 43 #[.agg #[.bool a, .int .u64 (hiW A), .int .u64 (loW A)], .agg #[.bool b, .int .u64 (hiW B), .int .u64 (loW B)]] w
      fun e w' => e = .returned (.agg #[.bool (neB a b), .int .u64 (hiW (A * B)), .int .u64 (loW (A * B))]) ∧ Below w.heap.size w w' := by
  have l1 : loW A = A := by unfold loW; omega
  have l2 : loW B = B := by unfold loW; omega
  have z0 : hiW A = 0 := by unfold hiW; omega
  have z1 : hiW B = 0 := by unfold hiW; omega
  have Hm : Hid ((!a == b) = neB a b) := by show _ = _; rfl
  have Hx : Hid (W3 false A = #[.bool false, .int .u64 0, .int .u64 A]) := by show _ = _; unfold W3; rw [l1, z0]
  have Ho : Hid (W3 false 0 = #[.bool false, .int .u64 0, .int .u64 0]) := by show _ = _; unfold W3; rfl
  rw [l1, l2, z0, z1]
  clear l1 l2 z0 z1
  go_enter Tryd.func43, Tryd.ntmps43
  go_wp2_with fail
  go_loopw [7] (fun n wr => ProdRel ((((w.alloc (Obj.cells #[Value.bool a, Value.int IntKind.u64 0, Value.int IntKind.u64 A] 74)).alloc
              (Obj.cells #[Value.bool b, Value.int IntKind.u64 0, Value.int IntKind.u64 B] 74)).alloc
          (Obj.cells #[Value.bool false, Value.int IntKind.u64 0, Value.int IntKind.u64 0] 74))) w.heap.size A B n wr) (fun n wr => (intOf n).toNat)
  case atStart =>
    refine ⟨B, 1, 0, rfl, Nat.le_refl _, by omega, by rw [Nat.mul_one]; omega, ?_, ?_, ?_⟩
    · go_grown
    · rw [Ho.out]; exact ((Blk.fresh _ _ _ _ (by simp)).old _)
    · rw [Nat.mul_one, Hx.out]; exact Blk.fresh _ _ _ _ (by simp)
  case round =>
    obtain ⟨k, p, S, rfl, hkB, h1, h2, hb, hS, hX⟩ := hrel
    clear Hx Ho
    by_cases hk : k = 0
    · subst hk
      obtain ⟨hc, hf⟩ := bcellB hb
      have c0 := hS.cell 0
      have c1 := hS.cell 1
      have c2 := hS.cell 2
      have hz := hb.size
      have fS := hS.frees
      have hS2 : S = A * B := by omega
      subst hS2
      clear h1 h2 hX
      simp only [W3, World.size_alloc] at c0 c1 c2 hz
      go_wp2
      refine bodyPost_ret (v := .agg #[.bool (neB a b), .int .u64 (hiW (A * B)), .int .u64 (loW (A * B))]) (by simp [results, Tryd.results43, go_sem, hc, Hm.out]) rfl ?_
      refine ⟨rfl, ?_⟩
      have hB2 : Below w.heap.size w wr := Below.trans (by go_grown) (hb.mono (by omega))
      go_grown
    · have hs3 := hS.lt
      have hs4 := hX.lt
      obtain ⟨p1, p2, p3, p4⟩ := prod_step A B p k S h1 h2
      have hp : p ≤ B := Nat.le_trans (Nat.le_mul_of_pos_right p (by omega)) h1
      have hap : A * p ≤ 9223372036854775808 * 9223372036854775808 := Nat.mul_le_mul hA (by omega)
      have hab : A * B ≤ 9223372036854775808 * 9223372036854775808 := Nat.mul_le_mul hA hB
      have hS' : S ≤ A * B := by omega
      have f1 : Fits (S + A * p) := by unfold Fits; omega
      have f2 : Fits (A * p + A * p) := by unfold Fits; omega
      clear hp hap hab hS' h1 h2
      have kpos : 0 < (k : Int) := by omega
      have kle : (k : Int) ≤ 9223372036854775808 := by omega
      have c0 := hS.cell 0
      have c1 := hS.cell 1
      have c2 := hS.cell 2
      have x0 := hX.cell 0
      have x1 := hX.cell 1
      have x2 := hX.cell 2
      have fS := hS.frees
      have fX := hX.frees
      simp only [W3] at c0 c1 c2 x0 x1 x2
      have q1 := Lib.hid p2
      have q2 := Lib.hid p1
      clear p1 p2 hk
      generalize hy : A * p = Y at *
      have kd : (k : Int) / 2 = ((k / 2 : Nat) : Int) := by omega
      have KD := Lib.hid kd
      clear kd
      by_cases hodd : k % 2 = 1
      · have ho : ((k : Int) % 2 == 1) = true := by rw [beq_iff_eq]; omega
        have q3 := Lib.hid (p3 hodd)
        clear p3 p4 hodd hy
        go_wp2_with fail
        refine (plus_any false false S Y _ f1).mono ?_; rintro e w1 ⟨rfl, hb1⟩
        obtain ⟨d1, d2⟩ := bcell hb1
        have hz1 := hb1.size
        have hb3 := hb1.mono (B' := w.heap.size + 1 + 1 + 1) (by omega)
        have hs5 : w.heap.size + 1 + 1 + 1 + 1 < w1.heap.size := by omega
        go_wp2_with fail
        refine (plus_any false false Y Y _ f2).mono ?_; rintro e w3 ⟨rfl, hb2⟩
        have hS3 := (((((hS.kept hb1).set 0 (.bool false)).set 1 (.int .u64 (hiW (S + Y)))).set 2 (.int .u64 (loW (S + Y))))).kept hb2
        have hX3 := (((((hX.kept hb1).other (a := ⟨w.heap.size + 1 + 1 + 1, 0, none⟩) (by simp) (.bool false)).other (a := ⟨w.heap.size + 1 + 1 + 1, 1, none⟩) (by simp) (.int .u64 (hiW (S + Y)))).other (a := ⟨w.heap.size + 1 + 1 + 1, 2, none⟩) (by simp) (.int .u64 (loW (S + Y))))).kept hb2
        have hb4 : Below (w.heap.size + 1 + 1 + 1) wr w3 := Below.trans (b := (((w1.setCell { block := w.heap.size + 1 + 1 + 1, off := 0 } (Value.bool false)).setCell { block := w.heap.size + 1 + 1 + 1, off := 1 } (Value.int IntKind.u64 (hiW (S + Y)))).setCell { block := w.heap.size + 1 + 1 + 1, off := 2 } (Value.int IntKind.u64 (loW (S + Y))))) (by go_grown) (hb2.mono (by simp; omega))
        clear hb1 hb2 hb3 hS hX fS fX d1 d2 hz1 c0 c1 c2 x0 x1 x2
        have y0 := hX3.cell 0
        have y1 := hX3.cell 1
        have y2 := hX3.cell 2
        have fX3 := hX3.frees
        simp only [W3] at y0 y1 y2
        go_wp2_with fail
        go_roundw
        case rel =>
          refine ⟨k / 2, p + p, S + Y, by rw [KD.out], by omega, q2.out, q3.out, ?_, ?_, ?_⟩
          · exact hb.trans (by go_grown)
          · exact (((hS3.other (by simp) _).other (by simp) _).other (by simp) _)
          · rw [q1.out]; exact (((hX3.set 0 _).set 1 _).set 2 _)
        case measure => simp [intOf]; omega
      · have ho : ((k : Int) % 2 == 1) = false := by rw [beq_eq_false_iff_ne]; omega
        have q3 := Lib.hid (p4 (by omega))
        clear p3 p4 hodd hy
        go_wp2_with fail
        refine (plus_any false false Y Y _ f2).mono ?_; rintro e w3 ⟨rfl, hb2⟩
        have hS3 := hS.kept hb2
        have hX3 := hX.kept hb2
        have hb4 : Below (w.heap.size + 1 + 1 + 1) wr w3 := (hb2.mono (by omega))
        clear hb2 hS hX fS fX c0 c1 c2 x0 x1 x2
        have y0 := hX3.cell 0
        have y1 := hX3.cell 1
        have y2 := hX3.cell 2
        have fX3 := hX3.frees
        simp only [W3] at y0 y1 y2
        go_wp2_with fail
        go_roundw
        case rel =>
          refine ⟨k / 2, p + p, S, by rw [KD.out], by omega, q2.out, ?_, ?_, ?_, ?_⟩
          · rw [q1.out]; rw [q1.out] at q3; exact q3.out
          · exact hb.trans (by go_grown)
          · exact (((hS3.other (by simp) _).other (by simp) _).other (by simp) _)
          · rw [q1.out]; exact (((hX3.set 0 _).set 1 _).set 2 _)
        case measure => simp [intOf]; omega

end Go.Proofs.YtbnlmeegepgioaaDoor
