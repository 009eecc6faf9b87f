/-
  Sorting rows of uint32: siftDown, heapSort.
-/
import Derived.Test.YtfobapnncjjeiaaSuC
namespace Go.Proofs.Ytfobapnncjjeiaa
open Go Go.RowKit Go.Lib Go.Sort
set_option linter.unusedVariables false

set_option maxRecDepth 100000 in
set_option maxHeartbeats 4000000 in
theorem siftU_any (blk off cap lo hi first : Nat) (d : Array Int) (w : World) (hH : Holds uE w blk off d) (hb : first + hi ≤ d.size) (hlo : lo ≤ 4194304) (hsz : d.size ≤ 4194304) :
    Calls Try.prog 75 #[.slice (some ⟨blk, off, none⟩) d.size cap, .int .i64 (lo : Nat), .int .i64 (hi : Nat), .int .i64 (first : Nat)] w fun e w' =>
      e = .returned (.tuple #[]) ∧ SoG w blk off (siftDown ltInt hi first lo d) w' ∧ (siftDown ltInt hi first lo d).size = d.size := by
  have HH := Lib.hid hH
  have LS : Hid (∀ x y w1, Calls Try.prog 66 #[.int .u32 x, .int .u32 y] w1 fun e w' => e = .returned (.bool (ltInt x y)) ∧ w' = w1) := lessU_any
  obtain ⟨N, hN⟩ : ∃ N, N = d.size := ⟨_, rfl⟩
  have HN := Lib.hid hN
  obtain ⟨D, hD⟩ : ∃ D, D = siftDown ltInt hi first lo d := ⟨_, rfl⟩
  have HD := Lib.hid hD
  rw [← hN] at hb hsz ⊢
  rw [← hD]
  clear hH hN hD
  go_enter Try.func75, Try.ntmps75
  go_wp2_with fail
  go_loopw [8] (fun rv wr => ∃ (root : Nat) (dk : Array Int), rv = .int .i64 root ∧ root ≤ 4194304 ∧ Hid (SoG w blk off dk wr ∧ dk.size = N ∧ siftDown ltInt hi first root dk = D)) (fun rv _ => 4194305 - (RowKit.intOf rv).toNat)
  case atStart => exact ⟨lo, d, rfl, hlo, SoG.self HH.out, HN.out.symm, HD.out.symm⟩
  case round =>
    obtain ⟨root, dk, rfl, hroot, HK⟩ := hrel
    have hdk := HK.out.2.1
    obtain ⟨c, hc⟩ : ∃ c, c = 2 * root + 1 := ⟨_, rfl⟩
    have hci : (2 : Int) * (root : Int) + 1 = (c : Int) := by omega
    by_cases hlt : c < hi
    · have d1 : decide ((c : Int) ≥ (hi : Int)) = false := decide_eq_false (by omega)
      have d1' : decide ((hi : Int) ≤ (c : Int)) = false := decide_eq_false (by omega)
      have d1'' : decide (hi ≤ c) = false := decide_eq_false (by omega)
      obtain ⟨t, ht⟩ : ∃ t, t = c + 1 := ⟨_, rfl⟩
      have hti : (c : Int) + 1 = (t : Int) := by omega
      obtain ⟨I0, hI0⟩ : ∃ I, I = first + root := ⟨_, rfl⟩
      have hI0i : (first : Int) + (root : Int) = (I0 : Int) := by omega
      have hI0w : IntKind.i64.wrap ((first : Int) + (root : Int)) = (I0 : Int) := by rw [IntKind.wrap_i64]; omega
      obtain ⟨I1, hI1⟩ : ∃ I, I = first + c := ⟨_, rfl⟩
      have hI1i : (first : Int) + (c : Int) = (I1 : Int) := by omega
      have hI1w : IntKind.i64.wrap ((first : Int) + (c : Int)) = (I1 : Int) := by rw [IntKind.wrap_i64]; omega
      obtain ⟨c0, f0⟩ := HK.out.1.cell HH.out (hdk.trans HN.out) (j := I0) (by have := HN.out; omega)
      obtain ⟨c1, f1⟩ := HK.out.1.cell HH.out (hdk.trans HN.out) (j := I1) (by have := HN.out; omega)
      have hI0N : (I0 : Int) < (N : Int) := by omega
      have hI0v : IntKind.i64.wrap (I0 : Int) = (I0 : Int) := by rw [IntKind.wrap_i64]; omega
      have hI1v : IntKind.i64.wrap (I1 : Int) = (I1 : Int) := by rw [IntKind.wrap_i64]; omega
      have hI1N : (I1 : Int) < (N : Int) := by omega
      by_cases hlt2 : t < hi
      · have d2 : decide ((t : Int) < (hi : Int)) = true := decide_eq_true (by omega)
        have d2' : decide (t < hi) = true := decide_eq_true hlt2
        obtain ⟨I2, hI2⟩ : ∃ I, I = first + t := ⟨_, rfl⟩
        have hI2i : (I1 : Int) + 1 = (I2 : Int) := by omega
        have hI2w : IntKind.i64.wrap ((I1 : Int) + 1) = (I2 : Int) := by rw [IntKind.wrap_i64]; omega
        have hI2j : (first : Int) + (t : Int) = (I2 : Int) := by omega
        have hI2v : IntKind.i64.wrap ((first : Int) + (t : Int)) = (I2 : Int) := by rw [IntKind.wrap_i64]; omega
        obtain ⟨c2, f2⟩ := HK.out.1.cell HH.out (hdk.trans HN.out) (j := I2) (by have := HN.out; omega)
        have hI2N : (I2 : Int) < (N : Int) := by omega
        have hI2z : IntKind.i64.wrap (I2 : Int) = (I2 : Int) := by rw [IntKind.wrap_i64]; omega
        have HR : Hid (ltInt dk[I1]! dk[I2]! = true → D = if ltInt dk[I0]! dk[I2]! = true then siftDown ltInt hi first t (swp dk I0 I2) else dk) := fun h => by
          have := sift_right (hi := hi) (first := first) (root := root) (d := dk) (by omega) (by rw [← hc, ← hI1, show I1 + 1 = I2 by omega]; exact h)
          rw [← HK.out.2.2, this, ← hI0, show 2 * root + 2 = t by omega, ← hI2]
        have HLf : Hid (ltInt dk[I1]! dk[I2]! = false → D = if ltInt dk[I0]! dk[I1]! = true then siftDown ltInt hi first c (swp dk I0 I1) else dk) := fun h => by
          have := sift_left (hi := hi) (first := first) (root := root) (d := dk) (by omega) (fun _ => by rw [← hc, ← hI1, show I1 + 1 = I2 by omega]; exact h)
          rw [← HK.out.2.2, this, ← hI0, ← hc, ← hI1]
        have HS1 := Lib.hid (fun q => (HK.out.1.drewN q).swap HH.out (hdk.trans HN.out) (j := I0) (k := I1) (by omega) (by omega))
        have HS2 := Lib.hid (fun q => (HK.out.1.drewN q).swap HH.out (hdk.trans HN.out) (j := I0) (k := I2) (by omega) (by omega))
        have HZ1 : Hid ((swp dk I0 I1).size = N) := by unfold Hid; rw [swp_sz]; exact hdk
        have HZ2 : Hid ((swp dk I0 I2).size = N) := by unfold Hid; rw [swp_sz]; exact hdk
        have HZ : Hid (dk.size = N) := hdk
        have HG := Lib.hid HK.out.1
        obtain ⟨x, hx⟩ : ∃ x, x = dk[I0]! := ⟨_, rfl⟩
        obtain ⟨y, hy⟩ : ∃ y, y = dk[I1]! := ⟨_, rfl⟩
        obtain ⟨z, hz⟩ : ∃ y, y = dk[I2]! := ⟨_, rfl⟩
        rw [← hx, ← hy] at HS1
        rw [← hx, ← hz] at HS2
        rw [← hx, ← hy, ← hz] at HR HLf
        rw [← hx] at c0
        rw [← hy] at c1
        rw [← hz] at c2
        obtain ⟨p, hp⟩ : ∃ q, q = ltInt y z := ⟨_, rfl⟩
        have LYZ : Hid (∀ w1, Calls Try.prog 66 #[.int .u32 y, .int .u32 z] w1 fun e w' => e = .returned (.bool p) ∧ w' = w1) := fun w1 => by rw [hp]; exact LS.out y z w1
        rw [← hp] at HR HLf
        have hct : (c : Int) < (t : Int) := by omega
        clear hx hy hz hp hc ht hI0 hI1 hI2 HK hdk
        go_wp2_with fail
        go_quiet (first | (go_at_call 66; exact Calls.quiet_of_same (LYZ.out _)))
        cases p with
        | true =>
          have HE := Lib.hid (HR.out rfl)
          clear HR HLf LYZ HS1 HZ1 c1 f1
          go_wp2_with fail
          obtain ⟨W, hW⟩ : ∃ W, W = wr.drewN nq := ⟨_, rfl⟩
          have c0' : W.cell? ⟨blk, off + I0, none⟩ = some (.int .u32 x) := by rw [hW]; exact c0
          have f0' : W.frozen? ⟨blk, off + I0, none⟩ = false := by rw [hW]; exact f0
          have c1' : W.cell? ⟨blk, off + I2, none⟩ = some (.int .u32 z) := by rw [hW]; exact c2
          have f1' : W.frozen? ⟨blk, off + I2, none⟩ = false := by rw [hW]; exact f2
          have HSW := Lib.hid (HS2.out nq)
          have HGW : Hid (SoG w blk off dk W) := by unfold Hid; rw [hW]; exact HG.out.drewN _
          rw [← hW] at HSW ⊢
          clear hW HS2 HG c2 f2 c0 f0
          obtain ⟨q, hq⟩ : ∃ q, q = ltInt x z := ⟨_, rfl⟩
          have LXY : Hid (∀ w1, Calls Try.prog 66 #[.int .u32 x, .int .u32 z] w1 fun e w' => e = .returned (.bool q) ∧ w' = w1) := fun w1 => by rw [hq]; exact LS.out x z w1
          rw [← hq] at HE
          clear hq
          go_quiet (first | (go_at_call 66; exact Calls.quiet_of_same (LXY.out _)))
          cases q with
          | true =>
            have HE2 : Hid (siftDown ltInt hi first t (swp dk I0 I2) = D) := by unfold Hid; rw [HE.out, if_pos rfl]
            clear HE LXY
            go_wp2_with fail
            go_region
            go_wp2_with fail
            go_roundw
            case rel => exact ⟨t, _, by go_num, by omega, HSW.out.drewN _, HZ2.out, HE2.out⟩
            case measure => simp [RowKit.intOf]; omega
          | false =>
            have HE2 : Hid (dk = D) := by unfold Hid; rw [HE.out, if_neg (by simp)]
            clear HE LXY
            go_wp2_with fail
            go_returns
            exact ⟨rfl, by rw [← HE2.out]; exact HGW.out.drewN _, by rw [← HE2.out]; exact HZ.out⟩
        | false =>
          have HE := Lib.hid (HLf.out rfl)
          clear HR HLf LYZ HS2 HZ2 c2 f2
          go_wp2_with fail
          obtain ⟨W, hW⟩ : ∃ W, W = wr.drewN nq := ⟨_, rfl⟩
          have c0' : W.cell? ⟨blk, off + I0, none⟩ = some (.int .u32 x) := by rw [hW]; exact c0
          have f0' : W.frozen? ⟨blk, off + I0, none⟩ = false := by rw [hW]; exact f0
          have c1' : W.cell? ⟨blk, off + I1, none⟩ = some (.int .u32 y) := by rw [hW]; exact c1
          have f1' : W.frozen? ⟨blk, off + I1, none⟩ = false := by rw [hW]; exact f1
          have HSW := Lib.hid (HS1.out nq)
          have HGW : Hid (SoG w blk off dk W) := by unfold Hid; rw [hW]; exact HG.out.drewN _
          rw [← hW] at HSW ⊢
          clear hW HS1 HG c1 f1 c0 f0
          obtain ⟨q, hq⟩ : ∃ q, q = ltInt x y := ⟨_, rfl⟩
          have LXY : Hid (∀ w1, Calls Try.prog 66 #[.int .u32 x, .int .u32 y] w1 fun e w' => e = .returned (.bool q) ∧ w' = w1) := fun w1 => by rw [hq]; exact LS.out x y w1
          rw [← hq] at HE
          clear hq
          go_quiet (first | (go_at_call 66; exact Calls.quiet_of_same (LXY.out _)))
          cases q with
          | true =>
            have HE2 : Hid (siftDown ltInt hi first c (swp dk I0 I1) = D) := by unfold Hid; rw [HE.out, if_pos rfl]
            clear HE LXY
            go_wp2_with fail
            go_region
            go_wp2_with fail
            go_roundw
            case rel => exact ⟨c, _, by go_num, by omega, HSW.out.drewN _, HZ1.out, HE2.out⟩
            case measure => simp [RowKit.intOf]; omega
          | false =>
            have HE2 : Hid (dk = D) := by unfold Hid; rw [HE.out, if_neg (by simp)]
            clear HE LXY
            go_wp2_with fail
            go_returns
            exact ⟨rfl, by rw [← HE2.out]; exact HGW.out.drewN _, by rw [← HE2.out]; exact HZ.out⟩
      · have d2 : decide ((t : Int) < (hi : Int)) = false := decide_eq_false (by omega)
        have d2' : decide (t < hi) = false := decide_eq_false hlt2
        have HE : Hid (D = if ltInt dk[I0]! dk[I1]! = true then siftDown ltInt hi first c (swp dk I0 I1) else dk) := by
          have := sift_left (hi := hi) (first := first) (root := root) (d := dk) (by omega) (fun h => by omega)
          unfold Hid
          rw [← HK.out.2.2, this, ← hI0, ← hc, ← hI1]
        have HS1 := Lib.hid (fun q => (HK.out.1.drewN q).swap HH.out (hdk.trans HN.out) (j := I0) (k := I1) (by omega) (by omega))
        have HZ1 : Hid ((swp dk I0 I1).size = N) := by unfold Hid; rw [swp_sz]; exact hdk
        have HZ : Hid (dk.size = N) := hdk
        have HG := Lib.hid HK.out.1
        obtain ⟨x, hx⟩ : ∃ x, x = dk[I0]! := ⟨_, rfl⟩
        obtain ⟨y, hy⟩ : ∃ y, y = dk[I1]! := ⟨_, rfl⟩
        rw [← hx, ← hy] at HS1 HE
        rw [← hx] at c0
        rw [← hy] at c1
        clear hx hy hc ht hI0 hI1 HK hdk
        go_wp2_with fail
        go_quiet (fail)
        go_wp2_with fail
        obtain ⟨W, hW⟩ : ∃ W, W = wr.drewN nq := ⟨_, rfl⟩
        have c0' : W.cell? ⟨blk, off + I0, none⟩ = some (.int .u32 x) := by rw [hW]; exact c0
        have f0' : W.frozen? ⟨blk, off + I0, none⟩ = false := by rw [hW]; exact f0
        have c1' : W.cell? ⟨blk, off + I1, none⟩ = some (.int .u32 y) := by rw [hW]; exact c1
        have f1' : W.frozen? ⟨blk, off + I1, none⟩ = false := by rw [hW]; exact f1
        have HSW := Lib.hid (HS1.out nq)
        have HGW : Hid (SoG w blk off dk W) := by unfold Hid; rw [hW]; exact HG.out.drewN _
        rw [← hW] at HSW ⊢
        clear hW HS1 HG c1 f1 c0 f0
        obtain ⟨q, hq⟩ : ∃ q, q = ltInt x y := ⟨_, rfl⟩
        have LXY : Hid (∀ w1, Calls Try.prog 66 #[.int .u32 x, .int .u32 y] w1 fun e w' => e = .returned (.bool q) ∧ w' = w1) := fun w1 => by rw [hq]; exact LS.out x y w1
        rw [← hq] at HE
        clear hq
        go_quiet (first | (go_at_call 66; exact Calls.quiet_of_same (LXY.out _)))
        cases q with
        | true =>
          have HE2 : Hid (siftDown ltInt hi first c (swp dk I0 I1) = D) := by unfold Hid; rw [HE.out, if_pos rfl]
          clear HE LXY
          go_wp2_with fail
          go_region
          go_wp2_with fail
          go_roundw
          case rel => exact ⟨c, _, by go_num, by omega, HSW.out.drewN _, HZ1.out, HE2.out⟩
          case measure => simp [RowKit.intOf]; omega
        | false =>
          have HE2 : Hid (dk = D) := by unfold Hid; rw [HE.out, if_neg (by simp)]
          clear HE LXY
          go_wp2_with fail
          go_returns
          exact ⟨rfl, by rw [← HE2.out]; exact HGW.out.drewN _, by rw [← HE2.out]; exact HZ.out⟩
    · have d1 : decide ((c : Int) ≥ (hi : Int)) = true := decide_eq_true (by omega)
      have d1' : decide ((hi : Int) ≤ (c : Int)) = true := decide_eq_true (by omega)
      have d1'' : decide (hi ≤ c) = true := decide_eq_true (by omega)
      have HE : Hid (dk = D) := by unfold Hid; rw [← HK.out.2.2, sift_stop (by omega)]
      have hcb : (c : Int) ≤ 8388609 := by omega
      clear hc
      go_wp2_with fail
      go_returns
      exact ⟨rfl, by rw [← HE.out]; exact HK.out.1, by rw [← HE.out]; exact hdk⟩

set_option maxRecDepth 100000 in
set_option maxHeartbeats 4000000 in
theorem heapU_any (blk off cap a b : Nat) (d : Array Int) (w : World) (hH : Holds uE w blk off d) (hab : a + 1 < b) (hb : b ≤ d.size) (hsz : d.size ≤ 4194304) :
    Calls Try.prog 61 #[.slice (some ⟨blk, off, none⟩) d.size cap, .int .i64 (a : Nat), .int .i64 (b : Nat)] w fun e w' =>
      e = .returned (.tuple #[]) ∧ ∃ d', SoG w blk off d' w' ∧ PermIn a b d d' ∧ SortedIn ltInt a b d' := by
  have HH := Lib.hid hH
  have HP : Hid (PermIn a b d (heapSort ltInt d a b) ∧ SortedIn ltInt a b (heapSort ltInt d a b)) := heapSort_holds swo_ltInt d a b (by omega) hb
  obtain ⟨N, hN⟩ : ∃ N, N = d.size := ⟨_, rfl⟩
  have HN := Lib.hid hN
  obtain ⟨n, hn⟩ : ∃ n, n = b - a := ⟨_, rfl⟩
  obtain ⟨D, hD⟩ : ∃ D, D = heapSort ltInt d a b := ⟨_, rfl⟩
  have HD : Hid (D = heapPop ltInt a n (heapBuild ltInt n a ((n - 1) / 2 + 1) d)) := by unfold Hid; rw [hD, hn]; rfl
  rw [← hD] at HP
  rw [← hN] at hb hsz ⊢
  have SF : Hid (∀ (lo hi : Nat) (dk : Array Int) (wk : World), Holds uE wk blk off dk → a + hi ≤ dk.size → lo ≤ 4194304 → dk.size = N →
      Calls Try.prog 75 #[.slice (some ⟨blk, off, none⟩) N cap, .int .i64 (lo : Nat), .int .i64 (hi : Nat), .int .i64 (a : Nat)] wk fun e w' =>
        e = .returned (.tuple #[]) ∧ SoG wk blk off (siftDown ltInt hi a lo dk) w' ∧ (siftDown ltInt hi a lo dk).size = N) := fun lo hi dk wk h1 h2 h3 h4 => by
    have := siftU_any blk off cap lo hi a dk wk h1 h2 h3 (by omega)
    rw [h4] at this; exact this
  have hni : (b : Int) - (a : Int) = (n : Int) := by omega
  have hn1 : 2 ≤ n := by omega
  have hanN : a + n ≤ N := by omega
  obtain ⟨h, hh⟩ : ∃ h, h = (n - 1) / 2 := ⟨_, rfl⟩
  have hhi : ((n : Int) - 1) / 2 = (h : Int) := by omega
  have hhq : Int.tdiv ((n : Int) - 1) 2 = (h : Int) := by rw [Int.tdiv_eq_ediv_of_nonneg (by omega)]; omega
  have hhn : h < n := by omega
  rw [← hh] at HD
  clear hH hN hn hD hh
  go_enter Try.func61, Try.ntmps61
  go_wp2_with fail
  clear hhq hhi hni
  go_loopw [9] (fun iv wr => ∃ (k : Nat) (dk : Array Int), iv = .int .i64 ((k : Int) - 1) ∧ k ≤ h + 1 ∧ Hid (SoG w blk off dk wr ∧ dk.size = N ∧ heapBuild ltInt n a k dk = heapBuild ltInt n a (h + 1) d)) (fun iv _ => (RowKit.intOf iv + 1).toNat)
  case atStart => exact ⟨h + 1, d, by simp, Nat.le_refl _, SoG.self HH.out, HN.out.symm, rfl⟩
  case round =>
    obtain ⟨k, dk, rfl, hk, HK⟩ := hrel
    have hdk := HK.out.2.1
    cases k with
    | zero =>
      rw [show ((0 : Nat) : Int) - 1 = -1 from rfl]
      have d1 : decide ((-1 : Int) ≥ 0) = false := by decide
      have HB : Hid (D = heapPop ltInt a n dk) := by unfold Hid; rw [HD.out, ← HK.out.2.2]; rfl
      have HG := Lib.hid HK.out.1
      have HZ := Lib.hid hdk
      clear HK hdk HD hk
      go_wp2_with fail
      go_loopw [10] (fun iv wr => ∃ (k : Nat) (dk : Array Int), iv = .int .i64 ((k : Int) - 1) ∧ k ≤ n ∧ Hid (SoG w blk off dk wr ∧ dk.size = N ∧ D = heapPop ltInt a k dk)) (fun iv _ => (RowKit.intOf iv + 1).toNat)
      case atStart => exact ⟨n, dk, by go_num, Nat.le_refl _, HG.out, HZ.out, HB.out⟩
      case round =>
        clear HG HZ HB
        obtain ⟨k, dk, rfl, hk, HK⟩ := hrel
        have hdk := HK.out.2.1
        cases k with
        | zero =>
          have HB : Hid (D = dk) := HK.out.2.2
          rw [show ((0 : Nat) : Int) - 1 = -1 from rfl]
          have d1 : decide ((-1 : Int) ≥ 0) = false := by decide
          go_wp2_with fail
          go_returns
          exact ⟨rfl, dk, HK.out.1, by rw [← HB.out]; exact HP.out⟩
        | succ i =>
          have hki : ((i + 1 : Nat) : Int) - 1 = (i : Int) := by omega
          rw [hki]
          have d1 : decide ((i : Int) ≥ 0) = true := decide_eq_true (by omega)
          obtain ⟨I, hI⟩ : ∃ I, I = a + i := ⟨_, rfl⟩
          have hIi : (a : Int) + (i : Int) = (I : Int) := by omega
          have hIw : IntKind.i64.wrap ((a : Int) + (i : Int)) = (I : Int) := by rw [IntKind.wrap_i64]; omega
          obtain ⟨c0, f0⟩ := HK.out.1.cell HH.out (hdk.trans HN.out) (j := a) (by have := HN.out; omega)
          obtain ⟨c1, f1⟩ := HK.out.1.cell HH.out (hdk.trans HN.out) (j := I) (by have := HN.out; omega)
          have hIN : (I : Int) < (N : Int) := by omega
          have hIv : IntKind.i64.wrap (I : Int) = (I : Int) := by rw [IntKind.wrap_i64]; omega
          have haN : (a : Int) < (N : Int) := by omega
          have HS := Lib.hid (HK.out.1.swap HH.out (hdk.trans HN.out) (j := a) (k := I) (by omega) (by omega))
          have HZ : Hid ((swp dk a I).size = N) := by unfold Hid; rw [swp_sz]; exact hdk
          have HE : Hid (D = heapPop ltInt a i (siftDown ltInt i a 0 (swp dk a I))) := by unfold Hid; rw [HK.out.2.2, hI]; rfl
          obtain ⟨z, cz, fz⟩ := set_cell (HK.out.1.holds HH.out (hdk.trans HN.out)) (i := a) (k := I) (by omega) (by omega) dk[I]!
          obtain ⟨x, hx⟩ : ∃ x, x = dk[a]! := ⟨_, rfl⟩
          obtain ⟨y, hy⟩ : ∃ y, y = dk[I]! := ⟨_, rfl⟩
          rw [← hy] at cz fz
          rw [← hx, ← hy] at HS
          rw [← hx] at c0
          rw [← hy] at c1
          obtain ⟨ds, hds⟩ : ∃ ds, ds = swp dk a I := ⟨_, rfl⟩
          rw [← hds] at HS HZ HE
          clear hx hy hI HK hdk hds
          go_wp2_with fail
          go_region
          go_wp2_with fail
          refine (SF.out 0 i ds _ ((HS.out.drewN _).holds HH.out (HZ.out.trans HN.out)) (by rw [HZ.out]; omega) (by omega) HZ.out).mono ?_
          rintro e w3 ⟨rfl, g3, z3⟩
          have HG3 := Lib.hid ((HS.out.drewN _).trans g3 (z3.trans HZ.out.symm))
          have HZ3 := Lib.hid z3
          clear g3 z3
          go_wp2_with fail
          go_roundw
          case rel => exact ⟨i, _, by go_num, by omega, HG3.out, HZ3.out, HE.out⟩
          case measure => simp [RowKit.intOf]
    | succ i =>
      have hki : ((i + 1 : Nat) : Int) - 1 = (i : Int) := by omega
      rw [hki]
      have d1 : decide ((i : Int) ≥ 0) = true := decide_eq_true (by omega)
      have HE : Hid (heapBuild ltInt n a i (siftDown ltInt n a i dk) = heapBuild ltInt n a (h + 1) d) := HK.out.2.2
      have SC := Lib.hid (SF.out i n dk wr (HK.out.1.holds HH.out (hdk.trans HN.out)) (by omega) (by omega) hdk)
      have HG := Lib.hid HK.out.1
      have HZ := Lib.hid hdk
      clear HK hdk
      go_wp2_with fail
      refine SC.out.mono ?_
      rintro e w3 ⟨rfl, g3, z3⟩
      have HG3 := Lib.hid (HG.out.trans g3 (z3.trans HZ.out.symm))
      have HZ3 := Lib.hid z3
      clear g3 z3
      go_wp2_with fail
      go_roundw
      case rel => exact ⟨i, _, by go_num, by omega, HG3.out, HZ3.out, HE.out⟩
      case measure => simp [RowKit.intOf]
end Go.Proofs.Ytfobapnncjjeiaa
