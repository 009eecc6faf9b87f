/-
  gangerref15: has (and gangerref04.Size).
  gangerref15.later.
  gangerref15.open.
  gangerref15.open: the walk.
-/
import Derived.Test.YtioeblljabohbaaBfTU
import Derived.Deep.QuietTactic
import Derived.BigQuiet
namespace Go.Proofs.Ytioeblljabohbaa
set_option linter.unusedVariables false

section
open Go Go.RowKit Go.Lib
theorem rSize_any (o : Nat) (ho : o ≤ 10) (w : World) : Calls Try.prog 37 #[.int .i64 (o : Int)] w fun e w' => e = .returned (.int .i64 ((2 ^ o : Nat) : Int)) ∧ w' = w := by
  obtain ⟨Q, hQ⟩ : ∃ Q, Q = 2 ^ o := ⟨_, rfl⟩
  rw [← hQ]
  have HQ := Lib.hid hQ
  clear hQ
  go_enter Try.func37, Try.ntmps37
  go_wp2_with fail
  go_loop [3, 4] (fun n i => ∃ k P : Nat, k ≤ o ∧ i = .int .i64 k ∧ n = .int .i64 P ∧ Hid (P = 2 ^ k) ∧ P ≤ 1024) (fun _ i => o - (RowKit.intOf i).toNat)
  case atStart => exact ⟨0, 1, Nat.zero_le _, rfl, rfl, rfl, by omega⟩
  case round =>
    obtain ⟨k, P, hk, rfl, rfl, HP, hP⟩ := hrel
    by_cases hlt : k < o
    · have hd : decide (k < o) = true := decide_eq_true hlt
      have hi : (k : Int) < (o : Int) := by omega
      have h2 : P * 2 ≤ 1024 := by rw [HP.out, ← Nat.pow_succ]; exact pow_1024 (by omega)
      go_wp2_with fail
      go_round
      case rel => exact ⟨k + 1, P * 2, hlt, by go_num, by go_num, by unfold Hid; rw [HP.out, Nat.pow_succ], h2⟩
      case measure => simp [RowKit.intOf]; omega
    · have hd : decide (k < o) = false := decide_eq_false hlt
      have hi : ¬ (k : Int) < (o : Int) := by omega
      have hko : k = o := by omega
      obtain rfl : P = Q := by rw [HQ.out, ← hko]; exact HP.out
      clear hko hlt
      go_wp2_with fail
      go_ret
      exact ⟨rfl, rfl⟩

/-- Does a block have a worker? -/
def hasB (s o x : Nat) : Bool := decide (s ≤ x) && decide (x < s + 2 ^ o)
set_option maxRecDepth 100000 in
set_option maxHeartbeats 4000000 in
theorem refHas_any (s o x : Nat) (ho : o ≤ 10) (hs : s ≤ 4096) (w : World) :
    Calls Try.prog 55 #[.agg #[.int .i64 (s : Nat), .int .i64 (o : Nat)], .int .i64 (x : Nat)] w fun e w' => e = .returned (.bool (hasB s o x)) ∧ Below w.heap.size w w' := by
  have SZ := Lib.hid (rSize_any o ho)
  have hp := pow_1024 ho
  unfold hasB
  obtain ⟨P, hP⟩ : ∃ P, P = 2 ^ o := ⟨_, rfl⟩
  rw [← hP] at SZ hp ⊢
  obtain ⟨E, hE⟩ : ∃ E, E = s + P := ⟨_, rfl⟩
  rw [← hE]
  have hEi : (s : Int) + (P : Int) = (E : Int) := by omega
  have hE9 : E ≤ 5120 := by omega
  clear hP hE
  obtain ⟨W, hW⟩ : ∃ W, W = w.alloc (.cells #[.int .i64 (s : Nat), .int .i64 (o : Nat)] 27) := ⟨_, rfl⟩
  obtain ⟨gB, hgB⟩ : ∃ g, g = w.heap.size := ⟨_, rfl⟩
  have hbW : Below w.heap.size w W := by rw [hW]; exact (Below.refl _ _).alloc (Nat.le_refl _) _
  have hG : Blk W gB #[.int .i64 (s : Nat), .int .i64 (o : Nat)] 27 := by rw [hW, hgB]; exact Blk.new _ _ _
  have HBW := Lib.hid hbW
  have g0 := hG.cell 0
  have g1 := hG.cell 1
  simp at g0 g1
  clear hG hbW
  go_enter Try.func55, Try.ntmps55
  go_upto_region 1 with fail
  rw [← hW, ← hgB]
  clear hW hgB
  by_cases h1 : s ≤ x
  · have d1 : decide ((x : Int) ≥ (s : Int)) = true := decide_eq_true (by omega)
    have d2 : decide (x ≥ s) = true := decide_eq_true h1
    have d3 : decide (s ≤ x) = true := decide_eq_true h1
    have d4 : decide ((x : Int) < (E : Int)) = decide (x < E) := by rw [Bool.eq_iff_iff, decide_eq_true_eq, decide_eq_true_eq]; omega
    have d5 : decide ((x : Int) < IntKind.i64.wrap (E : Int)) = decide (x < E) := by rw [show IntKind.i64.wrap (E : Int) = (E : Int) from by rw [IntKind.wrap_i64]; omega]; exact d4
    have D5 := Lib.hid d5
    clear d5 d4
    go_region_held3 (fun w' => w'.cell? ⟨gB, 0, none⟩ = some (.int .i64 (s : Nat)) ∧ w'.cell? ⟨gB, 1, none⟩ = some (.int .i64 (o : Nat)) ∧ Below W.heap.size W w')
      (first
        | assumption
        | exact ⟨g0, g1, Below.refl _ _⟩
        | exact ⟨g0, g1, (Below.refl _ _).drew⟩)
      (first
        | (go_at_call 37; ((with_reducible refine (SZ.out _).mono ?_); rintro e wz ⟨rfl, hw⟩; replace hw := hw.symm; subst hw)))
    go_wp2_with fail
    go_ret
    exact ⟨by (rw [d3, Bool.true_and, ← D5.out]; rfl), below_next ((Below.refl _ _).drew) HBW.out⟩
  · have d1 : decide ((x : Int) ≥ (s : Int)) = false := decide_eq_false (by omega)
    have d2 : decide (x ≥ s) = false := decide_eq_false h1
    have d3 : decide (s ≤ x) = false := decide_eq_false h1
    go_quiet (fail)
    go_wp2_with fail
    go_ret
    exact ⟨by (rw [d3, Bool.false_and]; rfl), below_next (below_drewN (Below.refl _ _) _) HBW.out⟩
end

section
open Go Go.RowKit Go.Lib
def optI : Option Nat → Int
  | none => -1
  | some y => (y : Int)
theorem IsNext.old {B : List Nat} {t y : Nat} {r : Option Nat} (h : IsNext B t r) (hy : y ≤ t) : IsNext (B ++ [y]) t r := by
  rcases h with ⟨h1, h2⟩ | ⟨z, h1, h2, h3, h4⟩
  · exact .inl ⟨h1, fun x hx => by rcases List.mem_append.1 hx with h | h; exact h2 x h; rw [List.mem_singleton.1 h]; exact hy⟩
  · exact .inr ⟨z, h1, List.mem_append_left _ h2, h3, fun x hx hlt => by rcases List.mem_append.1 hx with h | h; exact h4 x h hlt; rw [List.mem_singleton.1 h] at hlt; omega⟩
theorem IsNext.first {B : List Nat} {t y : Nat} (h : IsNext B t none) (hy : t < y) : IsNext (B ++ [y]) t (some y) := by
  rcases h with ⟨_, h2⟩ | ⟨z, h1, _⟩
  · exact .inr ⟨y, rfl, List.mem_append_right _ (List.mem_singleton.2 rfl), hy, fun x hx hlt => by rcases List.mem_append.1 hx with h | h; have := h2 x h; omega; rw [List.mem_singleton.1 h]; exact Nat.le_refl _⟩
  · cases h1
theorem IsNext.less {B : List Nat} {t y z : Nat} (h : IsNext B t (some z)) (hy : t < y) (hz : y < z) : IsNext (B ++ [y]) t (some y) := by
  rcases h with ⟨h1, _⟩ | ⟨z', h1, h2, h3, h4⟩
  · cases h1
  · injection h1 with h1; subst h1
    exact .inr ⟨y, rfl, List.mem_append_right _ (List.mem_singleton.2 rfl), hy, fun x hx hlt => by rcases List.mem_append.1 hx with h | h; have := h4 x h hlt; omega; rw [List.mem_singleton.1 h]; exact Nat.le_refl _⟩
theorem IsNext.more {B : List Nat} {t y z : Nat} (h : IsNext B t (some z)) (hz : z ≤ y) : IsNext (B ++ [y]) t (some z) := by
  rcases h with ⟨h1, _⟩ | ⟨z', h1, h2, h3, h4⟩
  · cases h1
  · injection h1 with h1; subst h1
    exact .inr ⟨z, rfl, List.mem_append_left _ h2, h3, fun x hx hlt => by rcases List.mem_append.1 hx with h | h; exact h4 x h hlt; rw [List.mem_singleton.1 h]; exact hz⟩
set_option maxRecDepth 100000 in
set_option maxHeartbeats 4000000 in
theorem refLater_any (n : Int) (t : Nat) (vf vh : Value) (hl : List HeT) (w : World) (hvf : vf.oneCell' = true) (hh : HRow w vh (hl.map heZ)) (hln : hl.length ≤ 1048576) :
    Calls Try.prog 57 #[.agg #[.int .i64 n, vf, vh], .int .i64 (t : Nat)] w fun e w' => ∃ r, e = .returned (.int .i64 (optI r)) ∧ IsNext (endsB hl) t r ∧ Below w.heap.size w w' := by
  obtain ⟨ha, hc, rfl⟩ := hh.slice
  obtain ⟨LH, hLH⟩ : ∃ n, n = (hl.map heZ).length := ⟨_, rfl⟩
  rw [← hLH] at hh ⊢
  have HLH : Hid (LH = hl.length) := by unfold Hid; rw [hLH, List.length_map]
  have HR := Lib.hid hh
  have hLn : LH ≤ 1048576 := by rw [HLH.out]; exact hln
  obtain ⟨gS, hgS⟩ : ∃ g, g = w.heap.size := ⟨_, rfl⟩
  obtain ⟨W, hW⟩ : ∃ W, W = w.alloc (.cells (Value.agg #[.int .i64 n, vf, .slice ha LH hc]).cells 25) := ⟨_, rfl⟩
  have ecells : (Value.agg #[.int .i64 n, vf, .slice ha LH hc]).cells = #[.int .i64 n, vf, .slice ha LH hc] := rfl
  rw [ecells] at hW
  have hbW : Below w.heap.size w W := by rw [hW]; exact (Below.refl _ _).alloc (Nat.le_refl _) _
  have hS : Blk W gS #[.int .i64 n, vf, .slice ha LH hc] 25 := by rw [hW, hgS]; exact Blk.new w _ _
  have HS := Lib.hid hS
  have HBW := Lib.hid hbW
  clear hS hbW ecells hh hLH hln
  go_enter Try.func57, Try.ntmps57
  go_upto_region 1 with fail
  rw [← hW, ← hgS]
  clear hW hgS
  go_wp2_with fail
  go_loopw [5, 6] (fun bv iv wr => ∃ (k : Nat) (r : Option Nat), k ≤ LH ∧ iv = .int .i64 k ∧ bv = .int .i64 (optI r) ∧ Hid (IsNext (endsB (hl.take k)) t r) ∧ wr = W) (fun _ iv _ => LH - (RowKit.intOf iv).toNat)
  case atStart => exact ⟨0, none, Nat.zero_le _, rfl, rfl, .inl ⟨rfl, fun x hx => by simp [endsB] at hx⟩, rfl⟩
  case round =>
    obtain ⟨k, r, hk, rfl, rfl, HN, rfl⟩ := hrel
    have s2 := HS.out.cell 2
    simp at s2
    by_cases hlt : k < LH
    · have hd : decide (k < LH) = true := decide_eq_true hlt
      have hki : (k : Int) < (LH : Int) := by omega
      have hkl : k < hl.length := by rw [← HLH.out]; exact hlt
      cases ha with
      | none => have := hrow_none HR.out; rw [this] at hkl; simp at hkl
      | some A =>
      obtain ⟨bb, off, rfl⟩ := hrow_some HR.out (by omega)
      obtain ⟨c0, c1, c2, c3⟩ := he_cells HR.out hkl HBW.out
      have HTK : Hid (endsB (hl.take (k + 1)) = endsB (hl.take k) ++ [hl[k].2.2.2]) := by
        unfold Hid endsB
        rw [List.take_add_one, List.getElem?_eq_getElem hkl, List.map_append]; rfl
      obtain ⟨y, hy⟩ : ∃ y, y = hl[k].2.2.2 := ⟨_, rfl⟩
      rw [← hy] at c3 HTK
      clear hy c0 c1 c2 hkl
      by_cases h1 : t < y
      · have d1 : decide ((y : Int) > (t : Int)) = true := decide_eq_true (by omega)
        have d2 : decide (y > t) = true := decide_eq_true h1
        cases r with
        | none =>
          have HX : Hid (IsNext (endsB (hl.take (k + 1))) t (some y)) := by unfold Hid; rw [HTK.out]; exact HN.out.first h1
          unfold optI
          clear HN HTK
          go_wp2_with fail
          go_roundw
          case rel => exact ⟨k + 1, some y, hlt, by go_num, rfl, HX, trivial⟩
          case measure => simp [RowKit.intOf]; omega
        | some z =>
          have d3 : decide ((z : Int) < 0) = false := decide_eq_false (by omega)
          by_cases h2 : y < z
          · have d4 : decide ((y : Int) < (z : Int)) = true := decide_eq_true (by omega)
            have d5 : decide (y < z) = true := decide_eq_true h2
            have HX : Hid (IsNext (endsB (hl.take (k + 1))) t (some y)) := by unfold Hid; rw [HTK.out]; exact HN.out.less h1 h2
            unfold optI
            clear HN HTK
            go_wp2_with fail
            go_roundw
            case rel => exact ⟨k + 1, some y, hlt, by go_num, rfl, HX, trivial⟩
            case measure => simp [RowKit.intOf]; omega
          · have d4 : decide ((y : Int) < (z : Int)) = false := decide_eq_false (by omega)
            have d5 : decide (y < z) = false := decide_eq_false h2
            have HX : Hid (IsNext (endsB (hl.take (k + 1))) t (some z)) := by unfold Hid; rw [HTK.out]; exact HN.out.more (by omega)
            unfold optI
            clear HN HTK
            go_wp2_with fail
            go_roundw
            case rel => exact ⟨k + 1, some z, hlt, by go_num, rfl, HX, trivial⟩
            case measure => simp [RowKit.intOf]; omega
      · have d1 : decide ((y : Int) > (t : Int)) = false := decide_eq_false (by omega)
        have d2 : decide (y > t) = false := decide_eq_false h1
        have HX : Hid (IsNext (endsB (hl.take (k + 1))) t r) := by unfold Hid; rw [HTK.out]; exact HN.out.old (by omega)
        clear HN HTK
        go_wp2_with fail
        go_roundw
        case rel => exact ⟨k + 1, r, hlt, by go_num, rfl, HX, trivial⟩
        case measure => simp [RowKit.intOf]; omega
    · have hd : decide (k < LH) = false := decide_eq_false hlt
      have hki : ¬ (k : Int) < (LH : Int) := by omega
      have HX : Hid (IsNext (endsB hl) t r) := by
        have h := HN.out
        rw [List.take_of_length_le (by have := HLH.out; omega)] at h; exact h
      clear HN hlt
      go_wp2_with fail
      go_ret
      exact ⟨r, rfl, HX.out, HBW.out⟩
end

section
open Go Go.RowKit Go.Lib
theorem hasB_one (s o x : Nat) : hasB s o x = meetB x 0 s o := by
  unfold hasB meetB
  rw [Bool.eq_iff_iff]
  simp only [Bool.and_eq_true, decide_eq_true_eq, Nat.pow_zero]
  omega
theorem hasB_two (s o s' o' : Nat) : (hasB s o s' || hasB s' o' s) = meetB s' o' s o := by
  rw [meetB_comm, meetB_ref]
  unfold hasB
  rw [Bool.eq_iff_iff]
  simp only [Bool.or_eq_true, Bool.and_eq_true, decide_eq_true_eq]
/-- What open asks. -/
theorem openB_eq (c : Sc) (s o a b : Nat) : freeB c s o a b = ((c.fl.all fun x => !hasB s o x) && c.hl.all fun h => !(keeps h a b && (hasB s o h.1 || hasB h.1 h.2.1 s))) := by
  unfold freeB
  congr 1
  · congr 1; funext x; rw [hasB_one]
  · congr 1; funext h; rw [hasB_two]
theorem openB_no {c : Sc} {s o a b k : Nat} (h : k < c.fl.length) (hk : hasB s o c.fl[k] = true) : freeB c s o a b = false := by
  rw [openB_eq]
  have : (c.fl.all fun x => !hasB s o x) = false := by
    rw [List.all_eq_false]
    exact ⟨_, List.getElem_mem h, by rw [hk]; simp⟩
  rw [this, Bool.false_and]
theorem openB_no2 {c : Sc} {s o a b k : Nat} (h : k < c.hl.length) (hk : keeps c.hl[k] a b = true) (hm : (hasB s o c.hl[k].1 || hasB c.hl[k].1 c.hl[k].2.1 s) = true) : freeB c s o a b = false := by
  rw [openB_eq]
  have : (c.hl.all fun h => !(keeps h a b && (hasB s o h.1 || hasB h.1 h.2.1 s))) = false := by
    rw [List.all_eq_false]
    exact ⟨_, List.getElem_mem h, by rw [hk, hm]; simp⟩
  rw [this, Bool.and_false]
theorem openB_yes {c : Sc} {s o a b : Nat} (h1 : ∀ i (h : i < c.fl.length), hasB s o c.fl[i] = false) (h2 : ∀ i (h : i < c.hl.length), (keeps c.hl[i] a b && (hasB s o c.hl[i].1 || hasB c.hl[i].1 c.hl[i].2.1 s)) = false) : freeB c s o a b = true := by
  rw [openB_eq, Bool.and_eq_true, List.all_eq_true, List.all_eq_true]
  refine ⟨fun x hx => ?_, fun x hx => ?_⟩
  · obtain ⟨i, hi, rfl⟩ := List.mem_iff_getElem.1 hx
    rw [h1 i hi]; rfl
  · obtain ⟨i, hi, rfl⟩ := List.mem_iff_getElem.1 hx
    rw [h2 i hi]; rfl
end

section
open Go Go.RowKit Go.Lib
set_option maxRecDepth 100000 in
set_option maxHeartbeats 8000000 in
theorem refOpen_any (vf vh : Value) (c : Sc) (s o a b : Nat) (w : World) (hr : SRow w vf vh c) (ho : o ≤ 10) (hs : s ≤ 4096) (hfn : c.fl.length ≤ 1024) (hhn : c.hl.length ≤ 1048576) (hbk : ∀ h ∈ c.hl, h.1 ≤ 4096 ∧ h.2.1 ≤ 10) :
    Calls Try.prog 39 #[.agg #[.int .i64 (c.n : Nat), vf, vh], .agg #[.int .i64 (s : Nat), .int .i64 (o : Nat)], .int .i64 (a : Nat), .int .i64 (b : Nat)] w fun e w' => e = .returned (.bool (freeB c s o a b)) ∧ Below w.heap.size w w' := by
  have HAS : Hid (∀ x w, Calls Try.prog 55 #[.agg #[.int .i64 (s : Nat), .int .i64 (o : Nat)], .int .i64 (x : Nat)] w fun e w' => e = .returned (.bool (hasB s o x)) ∧ Below w.heap.size w w') := fun x w => refHas_any s o x ho hs w
  have HF := Lib.hid hr.f
  have HH := Lib.hid hr.h
  obtain ⟨fa, fc, rfl⟩ := hr.f.slice
  obtain ⟨ha, hc, rfl⟩ := hr.h.slice
  obtain ⟨LF, hLF⟩ : ∃ n, n = (nsI c.fl).length := ⟨_, rfl⟩
  obtain ⟨LH, hLH⟩ : ∃ n, n = (c.hl.map heZ).length := ⟨_, rfl⟩
  rw [← hLF] at HF ⊢
  rw [← hLH] at HH ⊢
  have HLF : Hid (LF = c.fl.length) := by unfold Hid; rw [hLF, nsI_len]
  have HLH : Hid (LH = c.hl.length) := by unfold Hid; rw [hLH, List.length_map]
  have hF1 : LF ≤ 1024 := by rw [HLF.out]; exact hfn
  have hH1 : LH ≤ 1048576 := by rw [HLH.out]; exact hhn
  have HBK := Lib.hid hbk
  clear hr hLF hLH hfn hhn hbk
  obtain ⟨gS, hgS⟩ : ∃ g, g = w.heap.size := ⟨_, rfl⟩
  obtain ⟨gB, hgB⟩ : ∃ g, g = w.heap.size + 1 := ⟨_, rfl⟩
  obtain ⟨W, hW⟩ : ∃ W, W = (w.alloc (.cells #[.int .i64 (c.n : Nat), .slice fa LF fc, .slice ha LH hc] 25)).alloc (.cells #[.int .i64 (s : Nat), .int .i64 (o : Nat)] 27) := ⟨_, rfl⟩
  have HBW : Hid (Below w.heap.size w W) := by unfold Hid; rw [hW]; exact ((Below.refl _ _).alloc (Nat.le_refl _) _).alloc (by simp) _
  have HS : Hid (Blk W gS #[.int .i64 (c.n : Nat), .slice fa LF fc, .slice ha LH hc] 25) := by unfold Hid; rw [hW, hgS]; exact (Blk.new w _ _).old _
  have HB : Hid (Blk W gB #[.int .i64 (s : Nat), .int .i64 (o : Nat)] 27) := by
    have h := Blk.new (w.alloc (.cells #[.int .i64 (c.n : Nat), .slice fa LF fc, .slice ha LH hc] 25)) #[.int .i64 (s : Nat), .int .i64 (o : Nat)] 27
    have e : (w.alloc (.cells #[.int .i64 (c.n : Nat), .slice fa LF fc, .slice ha LH hc] 25)).heap.size = w.heap.size + 1 := by simp
    rw [e] at h
    unfold Hid; rw [hW, hgB]; exact h
  go_enter Try.func39, Try.ntmps39
  go_upto_region 1 with fail
  rw [← hgB, ← hgS, ← hW]
  clear hW hgS hgB
  go_wp2_with fail
  go_loopw [9] (fun iv wr => ∃ k : Nat, k ≤ LF ∧ iv = .int .i64 k ∧ Hid (∀ i (h : i < c.fl.length), i < k → hasB s o c.fl[i] = false) ∧ Hid (Below W.heap.size W wr)) (fun iv _ => LF - (RowKit.intOf iv).toNat)
  case atStart => exact ⟨0, Nat.zero_le _, rfl, fun i h h' => absurd h' (Nat.not_lt_zero _), Below.refl _ _⟩
  case round =>
    obtain ⟨k, hk, rfl, HN, HBr⟩ := hrel
    have s1 := (HS.out.kept HBr.out).cell 1
    have s2 := (HS.out.kept HBr.out).cell 2
    have b0 := (HB.out.kept HBr.out).cell 0
    have b1 := (HB.out.kept HBr.out).cell 1
    simp at s1 s2 b0 b1
    by_cases hlt : k < LF
    · have hd : decide (k < LF) = true := decide_eq_true hlt
      have hki : (k : Int) < (LF : Int) := by omega
      have hkl : k < c.fl.length := by rw [← HLF.out]; exact hlt
      have HWr : Hid (Below w.heap.size w wr) := HBW.out.trans (HBr.out.mono HBW.out.size)
      obtain ⟨bb, o0, hfa, c0⟩ : ∃ b o, fa = some ⟨b, o, none⟩ ∧ wr.cell? ⟨b, o + k, none⟩ = some (.int .i64 ((nsI c.fl).getD k 0)) := by
        rcases HF.out.kept HWr.out with ⟨h1, x, c9, h2⟩ | ⟨b9, o9, c9, h1, h2⟩
        · have := nsI_len c.fl; rw [h1] at this; simp at this; omega
        · injection h1 with h1; exact ⟨b9, o9, h1, h2 k (by rw [nsI_len]; exact hkl)⟩
      subst hfa
      rw [nsI_at hkl] at c0
      have HNO : Hid (hasB s o c.fl[k] = true → freeB c s o a b = false) := fun h => openB_no hkl h
      have HNX : Hid (hasB s o c.fl[k] = false → ∀ i (h : i < c.fl.length), i < k + 1 → hasB s o c.fl[i] = false) := fun h i hi hi2 => by
        rcases Nat.lt_or_ge i k with h1 | h1
        · exact HN.out i hi h1
        · obtain rfl : i = k := by omega
          exact h
      have HK := Lib.hid (HAS.out c.fl[k])
      obtain ⟨x, hx⟩ : ∃ x, x = c.fl[k] := ⟨_, rfl⟩
      rw [← hx] at c0 HK HNO HNX
      clear hx hkl HN
      cases hb : hasB s o x
      all_goals
        rw [hb] at HK HNO HNX
        clear hb
        go_wp2_with fail
        go_region_held3 (fun w' => w'.cell? ⟨gS, 1, none⟩ = some (.slice (some ⟨bb, o0, none⟩) LF fc) ∧ w'.cell? ⟨gB, 0, none⟩ = some (.int .i64 (s : Nat)) ∧ w'.cell? ⟨gB, 1, none⟩ = some (.int .i64 (o : Nat)) ∧ w'.cell? ⟨bb, o0 + k, none⟩ = some (.int .i64 (x : Nat)) ∧ Below wr.heap.size wr w')
          (first
            | exact ⟨s1, b0, b1, c0, (Below.refl _ _).drew⟩
            | exact ⟨s1, b0, b1, c0, Below.refl _ _⟩
            | (rcases ‹_ ∧ _ ∧ _ ∧ _ ∧ Below wr.heap.size _ _› with ⟨q0, q1, q2, q3, q5⟩; exact ⟨cell_next (by assumption) q0, cell_next (by assumption) q1, cell_next (by assumption) q2, cell_next (by assumption) q3, below_next (by assumption) q5⟩))
          (first
            | (go_at_call 55; ((with_reducible refine (HK.out _).mono ?_); rintro e w2 ⟨rfl, b2⟩)))
        have HB5 : Hid (Below W.heap.size W w2) := below_next (‹_ ∧ _ ∧ _ ∧ _ ∧ Below wr.heap.size wr _›).2.2.2.2 HBr.out
      · go_wp2_with fail
        go_roundw
        case rel => exact ⟨k + 1, hlt, by go_num, HNX.out trivial, HB5⟩
        case measure => simp [RowKit.intOf]; omega
      · have HNY := Lib.hid (HNO.out trivial)
        have HB6 : Hid (Below w.heap.size w w2) := HBW.out.trans (HB5.out.mono HBW.out.size)
        go_wp2_with fail
        go_ret
        exact ⟨by (rw [HNY.out]; rfl), HB6.out⟩
    · have hd : decide (k < LF) = false := decide_eq_false hlt
      have hki : ¬ (k : Int) < (LF : Int) := by omega
      have HFA : Hid (∀ i (h : i < c.fl.length), hasB s o c.fl[i] = false) := fun i h => HN.out i h (by have := HLF.out; omega)
      clear HN hlt hk
      go_upto_region 7 with fail
      obtain ⟨w9, hw9⟩ : ∃ w9, w9 = wr := ⟨_, rfl⟩
      subst hw9
      go_loopw [10] (fun iv wr => ∃ k : Nat, k ≤ LH ∧ iv = .int .i64 k ∧ Hid (∀ i (h : i < c.hl.length), i < k → (keeps c.hl[i] a b && (hasB s o c.hl[i].1 || hasB c.hl[i].1 c.hl[i].2.1 s)) = false) ∧ Hid (Below W.heap.size W wr)) (fun iv _ => LH - (RowKit.intOf iv).toNat)
      case atStart => exact ⟨0, Nat.zero_le _, rfl, fun i h h' => absurd h' (Nat.not_lt_zero _), HBr⟩
      case round =>
        clear s1 s2 b0 b1 HBr
        obtain ⟨k, hk, rfl, HN, HBr⟩ := hrel
        have s2 := (HS.out.kept HBr.out).cell 2
        have b0 := (HB.out.kept HBr.out).cell 0
        have b1 := (HB.out.kept HBr.out).cell 1
        simp at s2 b0 b1
        have HWr : Hid (Below w.heap.size w wr) := HBW.out.trans (HBr.out.mono HBW.out.size)
        by_cases hlt : k < LH
        · have hd : decide (k < LH) = true := decide_eq_true hlt
          have hki : (k : Int) < (LH : Int) := by omega
          have hkl : k < c.hl.length := by rw [← HLH.out]; exact hlt
          cases ha with
          | none => have := hrow_none HH.out; rw [this] at hkl; simp at hkl
          | some A =>
          obtain ⟨bb, off, rfl⟩ := hrow_some HH.out (by omega)
          obtain ⟨c0, c1, c2, c3⟩ := he_cells HH.out hkl HWr.out
          have HBK2 := HBK.out _ (List.getElem_mem hkl)
          have HNO : Hid (keeps c.hl[k] a b = true → (hasB s o c.hl[k].1 || hasB c.hl[k].1 c.hl[k].2.1 s) = true → freeB c s o a b = false) := fun h1 h2 => openB_no2 hkl h1 h2
          have HNX : Hid ((keeps c.hl[k] a b && (hasB s o c.hl[k].1 || hasB c.hl[k].1 c.hl[k].2.1 s)) = false → ∀ i (h : i < c.hl.length), i < k + 1 → (keeps c.hl[i] a b && (hasB s o c.hl[i].1 || hasB c.hl[i].1 c.hl[i].2.1 s)) = false) := fun h i hi hi2 => by
            rcases Nat.lt_or_ge i k with h1 | h1
            · exact HN.out i hi h1
            · obtain rfl : i = k := by omega
              exact h
          have HK1 := Lib.hid (HAS.out c.hl[k].1)
          have HK2 := Lib.hid (refHas_any c.hl[k].1 c.hl[k].2.1 s HBK2.2 HBK2.1)
          obtain ⟨y, hy⟩ : ∃ y, y = c.hl[k] := ⟨_, rfl⟩
          rw [← hy] at c0 c1 c2 c3 HNO HNX HK1 HK2
          obtain ⟨s', o', f, t⟩ := y
          dsimp only at c0 c1 c2 c3 HNO HNX HK1 HK2
          clear hy hkl HN HBK2
          obtain ⟨W2, hW2⟩ : ∃ W2, W2 = wr.alloc (.cells #[.int .i64 (s' : Nat), .int .i64 (o' : Nat), .int .i64 (f : Nat), .int .i64 (t : Nat)] 57) := ⟨_, rfl⟩
          have hBW2 : Below wr.heap.size wr W2 := by rw [hW2]; exact (Below.refl _ _).alloc (Nat.le_refl _) _
          have HXB := Blk.new wr #[.int .i64 (s' : Nat), .int .i64 (o' : Nat), .int .i64 (f : Nat), .int .i64 (t : Nat)] 57
          rw [← hW2] at HXB
          obtain ⟨g, hg⟩ : ∃ g, g = wr.heap.size := ⟨_, rfl⟩
          rw [← hg] at HXB
          have HX := Lib.hid HXB
          have HB2 : Hid (Below W.heap.size W W2) := below_next hBW2 HBr.out
          have HBB := Lib.hid ((HB.out.kept HBr.out).kept hBW2)
          have h0 := HXB.cell 0
          have h1 := HXB.cell 1
          have h2 := HXB.cell 2
          have h3 := HXB.cell 3
          simp at h0 h1 h2 h3
          replace b0 := cell_next hBW2 b0
          replace b1 := cell_next hBW2 b1
          clear HXB hBW2
          go_upto_region 10 with fail
          rw [← hW2, ← hg]
          clear hW2 hg c0 c1 c2 c3 HBr HWr s2
          by_cases q1 : b ≤ f
          · have d1 : decide ((b : Int) ≤ (f : Int)) = true := decide_eq_true (by omega)
            have d2 : decide (b ≤ f) = true := decide_eq_true q1
            have hkp : keeps (s', o', f, t) a b = false := by unfold keeps; dsimp only; rw [decide_eq_false (show ¬ f < b by omega), Bool.false_and]
            rw [hkp] at HNX
            have HNY := Lib.hid (HNX.out (Bool.false_and _))
            clear HNX HNO hkp
            go_wp2_with fail
            go_roundw
            case rel => exact ⟨k + 1, hlt, by go_num, HNY, HB2⟩
            case measure => simp [RowKit.intOf]; omega
          · have d1 : decide ((b : Int) ≤ (f : Int)) = false := decide_eq_false (by omega)
            have d2 : decide (b ≤ f) = false := decide_eq_false q1
            by_cases q2 : t ≤ a
            · have d3 : decide ((t : Int) ≤ (a : Int)) = true := decide_eq_true (by omega)
              have d4 : decide (t ≤ a) = true := decide_eq_true q2
              have hkp : keeps (s', o', f, t) a b = false := by unfold keeps; dsimp only; rw [decide_eq_false (show ¬ a < t by omega), Bool.and_false]
              rw [hkp] at HNX
              have HNY := Lib.hid (HNX.out (Bool.false_and _))
              clear HNX HNO hkp
              go_wp2_with fail
              go_roundw
              case rel => exact ⟨k + 1, hlt, by go_num, HNY, HB2⟩
              case measure => simp [RowKit.intOf]; omega
            · have d3 : decide ((t : Int) ≤ (a : Int)) = false := decide_eq_false (by omega)
              have d4 : decide (t ≤ a) = false := decide_eq_false q2
              have hkp : keeps (s', o', f, t) a b = true := by unfold keeps; dsimp only; rw [decide_eq_true (show f < b by omega), decide_eq_true (show a < t by omega)]; rfl
              rw [hkp] at HNX HNO
              cases e1 : hasB s o s' with
              | true =>
                rw [e1] at HNO HK1
                have HNY := Lib.hid (HNO.out rfl (Bool.true_or _))
                clear HNX HNO hkp e1 HK2
                go_wp2_with fail
                refine (HK1.out _).mono ?_; rintro e w5 ⟨rfl, b5⟩
                have HB5 : Hid (Below W.heap.size W w5) := below_next b5 HB2.out
                have HB6 : Hid (Below w.heap.size w w5) := HBW.out.trans (HB5.out.mono HBW.out.size)
                clear b5
                go_wp2_with fail
                go_ret
                exact ⟨by (rw [HNY.out]; rfl), HB6.out⟩
              | false =>
                rw [e1] at HNO HNX HK1
                cases e2 : hasB s' o' s with
                | true =>
                  rw [e2] at HNO HK2
                  have HNY := Lib.hid (HNO.out rfl rfl)
                  clear HNX HNO hkp e1 e2
                  go_wp2_with fail
                  refine (HK1.out _).mono ?_; rintro e w5 ⟨rfl, b5⟩
                  have HB5 : Hid (Below W.heap.size W w5) := below_next b5 HB2.out
                  replace h0 := cell_next b5 h0
                  replace h1 := cell_next b5 h1
                  replace b0 := cell_next b5 b0
                  clear b5
                  go_wp2_with fail
                  refine (HK2.out _).mono ?_; rintro e w6 ⟨rfl, b6⟩
                  have HB7 : Hid (Below W.heap.size W w6) := below_next b6 HB5.out
                  have HB6 : Hid (Below w.heap.size w w6) := HBW.out.trans (HB7.out.mono HBW.out.size)
                  clear b6
                  go_wp2_with fail
                  go_ret
                  exact ⟨by (rw [HNY.out]; rfl), HB6.out⟩
                | false =>
                  rw [e2] at HNX HK2
                  have HNY := Lib.hid (HNX.out rfl)
                  clear HNX HNO hkp e1 e2
                  go_wp2_with fail
                  refine (HK1.out _).mono ?_; rintro e w5 ⟨rfl, b5⟩
                  have HB5 : Hid (Below W.heap.size W w5) := below_next b5 HB2.out
                  replace h0 := cell_next b5 h0
                  replace h1 := cell_next b5 h1
                  replace b0 := cell_next b5 b0
                  clear b5
                  go_wp2_with fail
                  refine (HK2.out _).mono ?_; rintro e w6 ⟨rfl, b6⟩
                  have HB7 : Hid (Below W.heap.size W w6) := below_next b6 HB5.out
                  clear b6
                  go_wp2_with fail
                  go_roundw
                  case rel => exact ⟨k + 1, hlt, by go_num, HNY, HB7⟩
                  case measure => simp [RowKit.intOf]; omega
        · have hd : decide (k < LH) = false := decide_eq_false hlt
          have hki : ¬ (k : Int) < (LH : Int) := by omega
          have HY : Hid (freeB c s o a b = true) := openB_yes HFA.out fun i h => HN.out i h (by have := HLH.out; omega)
          clear HN hlt hk
          go_wp2_with fail
          go_ret
          exact ⟨by (rw [HY.out]; rfl), HWr.out⟩
end

end Go.Proofs.Ytioeblljabohbaa
