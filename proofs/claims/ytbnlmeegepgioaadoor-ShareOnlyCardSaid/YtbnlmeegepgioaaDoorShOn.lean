/-
  An account alone, and with one child: what the chapter's answers come to.
-/
import Derived.Test.YtbnlmeegepgioaaDoorShKn2
import Derived.Test.YtbnlmeegepgioaaDoorRwO
namespace Go.Proofs.YtbnlmeegepgioaaDoor
open Go Go.RowKit Go.Lib
set_option linter.unusedVariables false

def rN : ByteArray := ⟨#[114]⟩
def cN1 : ByteArray := ⟨#[99]⟩
def oneL (s : Nat) : List AcT := [(rN, ByteArray.empty, 1 + (s : Int))]
def twoL (s : Nat) : List AcT := [(rN, ByteArray.empty, 1 + (s : Int)), (cN1, rN, 1 + (s : Int))]
theorem nm_r : nameB rN = true := by decide +kernel
theorem nm_c : nameB cN1 = true := by decide +kernel
theorem r_ne_c : rN ≠ cN1 := by decide +kernel
theorem in_sh {s : Nat} (h : s ≤ 65535) : inR (1 + (s : Int)) 1 1048576 = true := inR_iff.2 ⟨by omega, by omega⟩
theorem one_ok {s : Nat} (h : s ≤ 65535) : AccOk (oneL s) := by
  refine ⟨by simp [oneL], by simp [oneL], ⟨fun i hi hk => ?_, fun i hi hk j hj => ?_⟩, fun i hi hk => ?_⟩
  · obtain rfl : i = 0 := by have : i < 1 := hi; omega
    show acOk (rN, ByteArray.empty, 1 + (s : Int)) = true
    unfold acOk; rw [nm_r, in_sh h]; rfl
  · have : i < 1 := hi; omega
  · obtain rfl : i = 0 := by have : i < 1 := hi; omega
    exact .inl ⟨rfl, rfl⟩
theorem two_ok {s : Nat} (h : s ≤ 65535) : AccOk (twoL s) := by
  refine ⟨by simp [twoL], by simp [twoL], ⟨fun i hi hk => ?_, fun i hi hk j hj => ?_⟩, fun i hi hk => ?_⟩
  · have hi' : i < 2 := hi
    rcases (by omega : i = 0 ∨ i = 1) with rfl | rfl
    · show acOk (rN, ByteArray.empty, 1 + (s : Int)) = true
      unfold acOk; rw [nm_r, in_sh h]; rfl
    · show acOk (cN1, rN, 1 + (s : Int)) = true
      unfold acOk; rw [nm_c, in_sh h]; rfl
  · have hi' : i < 2 := hi
    obtain rfl : i = 1 := by omega
    obtain rfl : j = 0 := by omega
    exact r_ne_c
  · have hi' : i < 2 := hi
    rcases (by omega : i = 0 ∨ i = 1) with rfl | rfl
    · exact .inl ⟨rfl, rfl⟩
    · exact .inr ⟨by omega, List.Mem.head _⟩
theorem sh_r : Short rN := by unfold Short; decide
theorem sh_c : Short cN1 := by unfold Short; decide
theorem sh_e : Short ByteArray.empty := by unfold Short; decide
theorem one_short (s : Nat) : ∀ p ∈ oneL s, Short p.1 ∧ Short p.2.1 := by
  intro p hp
  unfold oneL at hp
  rw [List.mem_singleton] at hp
  subst hp
  exact ⟨sh_r, sh_e⟩
theorem two_short (s : Nat) : ∀ p ∈ twoL s, Short p.1 ∧ Short p.2.1 := by
  intro p hp
  unfold twoL at hp
  simp only [List.mem_cons, List.not_mem_nil, or_false] at hp
  rcases hp with rfl | rfl
  · exact ⟨sh_r, sh_e⟩
  · exact ⟨sh_c, sh_r⟩
theorem row_one (f : Nat → Nat) : rowI f 1 = [(f 0 : Int)] := rfl
theorem row_two (f : Nat → Nat) : rowI f 2 = [(f 0 : Int), (f 1 : Int)] := rfl
theorem one_len (s : Nat) : (oneL s).length = 1 := rfl
theorem two_len (s : Nat) : (twoL s).length = 2 := rfl
theorem one_norms (s : Nat) : rowI (normI (oneL s)) 1 = [65536] := rfl
theorem one_sum (s o : Nat) (h : o ≤ 4294967295) : sumI (oneL s) (ownN [(o : Int)]) 0 = o := by
  unfold sumI
  rw [totI_eq, one_len]
  have e : sumN 1 (fun k => if 0 < k ∧ parI (oneL s) k = 0 then totI (oneL s) (ownN [(o : Int)]) k else 0) = 0 := sumN_zero fun k hk => if_neg (by omega)
  rw [e]
  unfold capN ownN
  simp; omega
theorem one_facs (s o : Nat) (h : o ≤ 4294967295) : rowI (facI (oneL s) (ownN [(o : Int)])) 1 = [if 0 < o then 32768 else 65536] := by
  rw [row_one]
  unfold facI partI
  rw [one_sum s o h]
  have e : normI (oneL s) 0 = 65536 := rfl
  rw [e]
  by_cases h0 : 0 < o
  · rw [if_pos h0, Nat.mul_div_cancel _ h0]; rfl
  · rw [if_neg h0]
    obtain rfl : o = 0 := by omega
    rfl
theorem two_par {s : Nat} (h : s ≤ 65535) : parI (twoL s) 1 = 0 := by
  have := (Tree.mk' (two_ok h)).lt 1 (by rw [two_len]; omega) (by omega)
  omega
theorem two_norm {s : Nat} (h : s ≤ 65535) : normI (twoL s) 1 = 65536 := by
  have T := Tree.mk' (two_ok h)
  rw [normI_eq T (by rw [two_len]; omega) (by omega), two_par h, normI_zero]
  have hs := (T.sh 1 (by rw [two_len]; omega)).1
  have e : allI (twoL s) 0 = shI (twoL s) 1 := by
    unfold allI
    rw [two_len]
    simp only [sumN]
    rw [if_neg (by omega), if_pos ⟨by omega, two_par h⟩]; omega
  rw [e, Nat.mul_div_cancel _ hs]
theorem two_norms {s : Nat} (h : s ≤ 65535) : rowI (normI (twoL s)) 2 = [65536, 65536] := by
  rw [row_two, two_norm h, normI_zero]; rfl
theorem two_tot1 {s : Nat} (h : s ≤ 65535) (o c : Nat) : totI (twoL s) (ownN [(o : Int), (c : Int)]) 1 = c := by
  rw [totI_eq, two_len]
  rw [sumN_zero fun k hk => if_neg (by omega)]
  unfold ownN; simp
theorem two_tot0 {s : Nat} (h : s ≤ 65535) (o c : Nat) : totI (twoL s) (ownN [(o : Int), (c : Int)]) 0 = o + c := by
  rw [totI_eq, two_len]
  simp only [sumN]
  rw [if_neg (by omega), if_pos ⟨by omega, two_par h⟩, two_tot1 h]
  unfold ownN; simp
theorem two_parts {s : Nat} (h : s ≤ 65535) (o c : Nat) (ho : o ≤ 4294967295) (hc : c ≤ 4294967295) : rowI (partI (twoL s) (ownN [(o : Int), (c : Int)])) 2 = [if 0 < o + c then 65536 else 0, ((65536 * c / (o + c) : Nat) : Int)] := by
  rw [row_two]
  unfold partI sumI
  rw [two_tot0 h, two_tot1 h]
  have e0 : capN (o + c) = o + c := by unfold capN; omega
  have e1 : capN c = c := by unfold capN; omega
  rw [e0, e1]
  by_cases h0 : 0 < o + c
  · rw [if_pos h0, Nat.mul_div_cancel _ h0]; rfl
  · rw [if_neg h0]
    have : o + c = 0 := by omega
    rw [this]; rfl
theorem own1_ok (s o : Nat) : OwnOk (oneL s) [(o : Int)] := ⟨rfl, fun x hx => by rw [List.mem_singleton] at hx; omega⟩
theorem own2_ok (s o c : Nat) : OwnOk (twoL s) [(o : Int), (c : Int)] := ⟨rfl, fun x hx => by simp only [List.mem_cons, List.not_mem_nil, or_false] at hx; omega⟩
theorem Tryd.infoAcc : (Tryd.prog.info? 37).map (fun i => (i.zero, i.size, i.bytes)) = some (some (.agg #[.string ByteArray.empty, .string ByteArray.empty, .int .i64 0]), 3, 40) := by kernel_rfl
theorem enc_len (x : AcT) : (encAc x).length = 3 := rfl
end Go.Proofs.YtbnlmeegepgioaaDoor
