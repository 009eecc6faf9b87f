/-
  What Fail and Heal say of a worker that is failed, or is not; a cell of a row of the law's own.
-/
import Derived.Test.YtcdlfhheolbhaaaYeW
import Derived.Test.YtcdlfhheolbhaaaYfA
import Derived.Test.YtcdlfhheolbhaaaYfB
namespace Go.Proofs.Ytcdlfhheolbhaaa
open Go Go.RowKit Go.Lib
set_option linter.unusedVariables false

theorem fail_twice {n x : Nat} {fl fl' : List Nat} {er : Int} (h : FailR n fl (x : Int) er fl') (hx : x < 2 ^ n) (hm : x ∈ fl) : er = 30 ∧ fl' = fl := by
  generalize hq : (x : Int) = q at h
  cases h with
  | arg h => exact absurd ⟨by omega, by omega⟩ h
  | twice y hy _ _ => exact ⟨rfl, rfl⟩
  | ok y hy _ hn =>
    obtain rfl : x = y := by omega
    exact absurd hm hn
theorem heal_ok {n x : Nat} {fl fl' : List Nat} {er : Int} (h : HealR n fl (x : Int) er fl') (hx : x < 2 ^ n) (hm : x ∈ fl) : er = 0 ∧ fl' = remF fl x := by
  generalize hq : (x : Int) = q at h
  cases h with
  | arg h => exact absurd ⟨by omega, by omega⟩ h
  | none y hy _ hn =>
    obtain rfl : x = y := by omega
    exact absurd hm hn
  | ok y hy _ hn =>
    obtain rfl : x = y := by omega
    exact ⟨rfl, rfl⟩
theorem heal_none {n x : Nat} {fl fl' : List Nat} {er : Int} (h : HealR n fl (x : Int) er fl') (hx : x < 2 ^ n) (hm : x ∉ fl) : er = 4 ∧ fl' = fl := by
  generalize hq : (x : Int) = q at h
  cases h with
  | arg h => exact absurd ⟨by omega, by omega⟩ h
  | none y hy _ hn => exact ⟨rfl, rfl⟩
  | ok y hy _ hn =>
    obtain rfl : x = y := by omega
    exact absurd hn hm
theorem own_cell {w : World} {sc N q j base : Nat} {D : List Nat} (h : w.ownsRow base 3 1 (.slice (some ⟨q, 0, none⟩) N sc) N (natL D)) (hj : j < D.length) : w.cell? ⟨q, j, none⟩ = some (.int .i64 ((D.getD j 0 : Nat) : Int)) := by
  have h1 := h.cells (g := q) rfl j (.int .i64 ((D.getD j 0 : Nat) : Int)) (by
    have := numsL_get (l := natI D) (i := j) (by rw [natI_len]; exact hj)
    rw [natI_at hj] at this
    rw [this, List.getD_eq_getElem?_getD, List.getElem?_eq_getElem hj]; rfl)
  rw [Addr.add_lit, Nat.zero_add] at h1
  exact h1
theorem own_addr {w : World} {sc N base : Nat} {sa : Option Addr} {D : List Nat} (h : w.ownsRow base 3 1 (.slice sa N sc) N (natL D)) (hN : 0 < N) : ∃ q, sa = some ⟨q, 0, none⟩ := by
  rcases h.2 with ⟨e, h0⟩ | ⟨q, cap, cur, e, _⟩
  · omega
  · exact ⟨q, by injection e⟩
theorem i64_n (n : Nat) (h : n ≤ 9223372036854775807) : IntKind.i64.wrap (n : Int) = (n : Int) := by rw [IntKind.wrap_i64]; omega
theorem u64_n (n : Nat) (h : n ≤ 9223372036854775807) : IntKind.u64.wrap (n : Int) = (n : Int) := by rw [IntKind.wrap_u64]; omega
theorem pick_mod (x : Int) (n : Nat) (h : 0 < n) (hn : n ≤ 1000000) : ∃ U K : Nat, IntKind.u64.wrap x = (U : Int) ∧ (U : Int) % (n : Int) = (K : Int) ∧ K < n ∧ (U : Int).tmod (n : Int) = (K : Int) := by
  obtain ⟨U, hU⟩ := Int.eq_ofNat_of_zero_le (show 0 ≤ IntKind.u64.wrap x by rw [IntKind.wrap_u64]; omega)
  have e : (U : Int) % (n : Int) = ((U % n : Nat) : Int) := by simp
  refine ⟨U, U % n, hU, e, Nat.mod_lt _ h, ?_⟩
  rw [Int.tmod_eq_emod_of_nonneg (by omega), e]
/-- One shifted to the left, at an order that is a letter. -/
theorem one_shl {o : Nat} (h : o ≤ 10) : ∃ P : Nat, P = 2 ^ o ∧ 1 ≤ P ∧ P ≤ 1024 ∧ IntKind.i64.wrap ((2 : Int) ^ o) = (P : Int) := by
  have h2 := pow_1024 h
  have h1 := two_pos o
  refine ⟨2 ^ o, rfl, h1, h2, ?_⟩
  have e : ((2 : Int) ^ o) = ((2 ^ o : Nat) : Int) := by simp
  rw [e, IntKind.wrap_i64]; omega
theorem pick6 (x : Int) : ∃ U K : Nat, IntKind.u64.wrap x = (U : Int) ∧ (U : Int) % 6 = (K : Int) ∧ K < 6 ∧ (U : Int).tmod 6 = (K : Int) := by
  obtain ⟨U, K, h1, h2, h3, h4⟩ := pick_mod x 6 (by omega) (by omega)
  exact ⟨U, K, h1, h2, h3, h4⟩

/-! Take, beside the first free block of the least order that is enough. -/
theorem take_best {n o : Nat} {tk tk' : List Bk} {fl : List Nat} {q r er b : Int} (hq : (o : Int) = q) (h : TakeR n tk fl q r er tk') (ho : o ≤ n) (hB : BestR (freeL n (opn n tk fl)) o (freeL n (opn n tk fl)).length b) :
    (b = -1 ∧ r = 0 ∧ er = 5 ∧ ¬ fitsB n (opn n tk fl) q) ∨ ∃ m s : Nat, b = (m : Int) ∧ m < (freeL n (opn n tk fl)).length ∧ (∃ k, (freeL n (opn n tk fl))[m]? = some (s, k)) ∧ r = (s : Int) ∧ er = 0 ∧ tk' = insT tk (s, o) ∧ fitsB n (opn n tk fl) q := by
  cases h with
  | arg h => exact absurd ⟨by omega, by omega⟩ h
  | full o' hq' ho' hf =>
    obtain rfl : o = o' := by omega
    refine .inl ⟨hB.none_of hf, rfl, rfl, ?_⟩
    rintro ⟨o2, k, h1, h2, h3, h4⟩
    obtain rfl : o = o2 := by omega
    exact h4 (hf k h2 h3)
  | ok o' k s rr hq' hok hk hj hs =>
    obtain rfl : o = o' := by omega
    obtain ⟨m, hm, rfl, e⟩ := hB.ok hok hj hs
    exact .inr ⟨m, s, rfl, hm, ⟨k, by rw [List.getElem?_eq_getElem hm, e]⟩, rfl, rfl, rfl, ⟨o, k, hq.symm, hok, hk, by rw [hs]; simp⟩⟩
theorem held_taken {n s o : Nat} {tk : List Bk} {fl : List Nat} {b : Bk} {f : Bool} (hY : OkY n tk fl) (hm : (s, o) ∈ tk) (h : HeldR tk (s : Int) b f) : b = (s, o) ∧ f = true := by
  cases h with
  | no h =>
    have := h _ hm
    rw [(inI_nat (s, o) s).2 (inB_self o s)] at this; cases this
  | yes b hb hx => exact ⟨srt_start hY.srt hb hm ((inI_nat b s).1 hx) (inB_self o s), rfl⟩
theorem take_some {n : Nat} {tk tk' : List Bk} {fl : List Nat} {q r er : Int} (hq : q = 0) (h : TakeR n tk fl q r er tk') (hc : 0 < (opensL n (opn n tk fl)).length) :
    ∃ (kk s : Nat) (rr : List Nat), frL n (opn n tk fl) kk = s :: rr ∧ r = (s : Int) ∧ er = 0 ∧ tk' = insT tk (s, 0) ∧ (opensL n (opn n tk' fl)).length + 1 = (opensL n (opn n tk fl)).length := by
  cases h with
  | arg h => exact absurd ⟨by omega, by omega⟩ h
  | full o' hq' ho' hf =>
    obtain rfl : o' = 0 := by omega
    exact absurd hf (opens_some hc)
  | ok o' k s rr hq' hok hk hj hs =>
    obtain rfl : o' = 0 := by omega
    have hF : isF n (opn n tk fl) k s := frL_mem.1 (by rw [hs]; simp)
    obtain ⟨t1, t2, t3, t4⟩ := isF_begin hF hok
    refine ⟨k, s, rr, hs, rfl, rfl, rfl, ?_⟩
    rw [opn_take (b := (s, 0)) t4]
    exact opens_less (by simp at t3; omega) (t4 s (inB_self 0 s))
theorem take_none {n : Nat} {tk tk' : List Bk} {fl : List Nat} {q r er : Int} (hq : q = 0) (h : TakeR n tk fl q r er tk') (hc : (opensL n (opn n tk fl)).length = 0) : r = 0 ∧ er = 5 ∧ tk' = tk := by
  cases h with
  | arg h => exact absurd ⟨by omega, by omega⟩ h
  | full o' hq' ho' hf => exact ⟨rfl, rfl, rfl⟩
  | ok o' k s rr hq' hok hk hj hs =>
    rw [opens_frL hc] at hs; cases hs
theorem no_fits {n : Nat} {op : Opn} (hc : (opensL n op).length = 0) (q : Int) : ¬ fitsB n op q := by
  rintro ⟨o, k, _, _, _, h4⟩
  exact h4 (opens_frL hc k)
theorem sumB_take {F : List Bk} {k : Nat} (h : k < F.length) : sumB (F.take (k + 1)) = sumB (F.take k) + 2 ^ (F[k]).2 := by
  rw [List.take_add_one, List.getElem?_eq_getElem h]; exact sumB_snoc _ _
end Go.Proofs.Ytcdlfhheolbhaaa
