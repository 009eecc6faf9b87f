/-
  slices.Compact at a sorted row of uint32 that is owned.
-/
import Derived.Test.YtfabjlhepadkpaaSuA
import Derived.Test.YtfabjlhepadkpaaGrp
import Derived.Test.YtfabjlhepadkpaaChg
import Derived.Test.YtfabjlhepadkpaaNums
import Derived.Deep.QuietTactic
import Derived.BigQuiet
namespace Go.Proofs.Ytfabjlhepadkpaa
open Go Go.RowKit Go.Lib
set_option linter.unusedVariables false

theorem owns_put8 {w : World} {base g n cap s j : Nat} {e : TypeId} {xs : List Value} (h : w.ownsRow base e s (.slice (some ⟨g, 0, none⟩) n cap) n xs) (hj : j < n * s) (u : Value) :
    (∃ c, w.cell? ⟨g, j, none⟩ = some c) ∧ w.frozen? ⟨g, j, none⟩ = false ∧ (w.setCell ⟨g, j, none⟩ u).ownsRow base e s (.slice (some ⟨g, 0, none⟩) n cap) n (xs.set j u) ∧ Chg (fun k => k = g) w (w.setCell ⟨g, j, none⟩ u) := by
  have hl : xs.length = n * s := h.1
  have hx : xs[j]? = some (xs[j]'(by omega)) := List.getElem?_eq_getElem _
  have h1 := h.cells (g := g) rfl j _ hx
  rw [Addr.add_lit, Nat.zero_add] at h1
  refine ⟨⟨_, h1⟩, ?_, (h.stored j u).1, Chg.setCell j u rfl⟩
  rcases h.2 with ⟨e, _⟩ | ⟨g', cap', cur, e, _, hg, _⟩
  · cases e
  · injection e with e1
    injection e1 with e1
    injection e1 with e1
    subst e1
    simp [World.frozen?, hg]
theorem uL_get {l : List Nat} {i : Nat} (h : i < l.length) : (uL l)[i]? = some (.int .u32 (l[i] : Nat)) := by
  rw [uL_map, List.getElem?_map, List.getElem?_map, List.getElem?_eq_getElem h]; rfl
theorem uL_set (l : List Nat) (i x : Nat) : uL (l.set i x) = (uL l).set i (.int .u32 (x : Nat)) := by
  rw [uL_map, uL_map, List.map_set, List.map_set]
theorem u_cell {w : World} {base g n cap : Nat} {l : List Nat} (h : w.ownsRow base 23 1 (.slice (some ⟨g, 0, none⟩) n cap) n (uL l)) {i : Nat} (hi : i < l.length) : w.cell? ⟨g, i, none⟩ = some (.int .u32 (l[i] : Nat)) := by
  have h1 := h.cells (g := g) rfl i _ (uL_get hi)
  rwa [Addr.add_lit, Nat.zero_add] at h1
theorem Try.infoJob : (Try.prog.info? 23).map (fun i => (i.zero, i.size, i.bytes)) = some (some (.int .u32 0), 1, 4) := by kernel_rfl
set_option maxRecDepth 100000 in
/-- The cells behind a place are made noughts; what stands ahead is owned. -/
theorem clear8 {w : World} {base g n cap k : Nat} {xs : List Value} (h : w.ownsRow base 23 1 (.slice (some ⟨g, 0, none⟩) n cap) n xs) (hk : k < n) :
    ∃ w2, (∀ ty c, (Builtin.clear_ #[45] ty #[.slice (some ⟨g, k, none⟩) (n - k) c]).run Try.prog w = .ok (.tuple #[]) w2) ∧ w2.ownsRow base 23 1 (.slice (some ⟨g, 0, none⟩) k cap) k (xs.take k) ∧ Chg (fun q => q = g) w w2 := by
  obtain ⟨i0, hi, hz0, hz1, hz2⟩ := info_parts Try.infoJob
  obtain ⟨z, hz⟩ : ∃ z : Value, z = .int .u32 0 := ⟨_, rfl⟩
  have hzc : z.cells.size = 1 := by rw [hz]; rfl
  have hzero : ∀ w, (zeroValue 23).run Try.prog w = .ok z w := fun w => by rw [hz]; simp [zeroValue, typeInfo, hi, hz0]
  have hz1c : ∀ v ∈ (Builtin.zeroCells z.cells (n - k)).toList, v.oneCell' = true := by
    intro v hv
    rw [Array.mem_toList_iff] at hv
    unfold Builtin.zeroCells at hv
    obtain ⟨q, _, rfl⟩ := Array.mem_map.1 hv
    have : q % z.cells.size < 1 := by rw [hzc]; omega
    generalize q % z.cells.size = r at *
    rw [hz]
    obtain rfl : r = 0 := by omega
    rfl
  have hf := owns_front h k (by omega)
  rw [Nat.mul_one] at hf
  have hft := owns_tail hf k (Builtin.zeroCells z.cells (n - k)).toList (by omega)
  have hl : xs.length = n * 1 := h.1
  refine ⟨_, fun ty c => run_clear_rows w 45 23 ty z Try.underlying45 hzero g k (n - k) c hz1c (by omega) (fun q hq => ?_) (fun q hq => ?_), hft, Chg.of_grown (r := some g) (grownBy_setCells g _ _ _) (fun q hq => (Option.some.inj hq).symm)⟩
  · rw [hzc] at hq
    obtain ⟨⟨c, hc⟩, _⟩ := owns_put8 h (j := k + q) (by omega) (.int .u32 0)
    rw [hc]; rfl
  · rw [hzc] at hq
    exact (owns_put8 h (j := k + q) (by omega) (.int .u32 0)).2.1
def CompTo (base : Nat) (v : Value) (zs : List Nat) (w : World) (e : Ending) (w' : World) : Prop :=
  ∃ v' os, e = .returned v' ∧ UOwn w' base v' os ∧ os.Pairwise (· < ·) ∧ (∀ x, x ∈ os ↔ x ∈ zs) ∧ Chg (fun k => v.ownBlock = some k) w w'
theorem take_lt {zs : List Nat} (hs : zs.Pairwise (· ≤ ·)) {t : Nat} (ht : t < zs.length) (h0 : 1 ≤ t) : ∀ x ∈ zs.take t, x ≤ zs[t - 1] := fun x hx => by
  obtain ⟨q, hq, rfl⟩ := List.getElem_of_mem hx
  rw [List.length_take] at hq
  rw [List.getElem_take]
  rcases Nat.lt_or_ge q (t - 1) with h | h
  · exact List.pairwise_iff_getElem.1 hs q (t - 1) (by omega) (by omega) h
  · have e : q = t - 1 := by omega
    subst e; exact Nat.le_refl _
theorem take_mem {zs : List Nat} {t : Nat} (ht : t < zs.length) (x : Nat) : x ∈ zs.take (t + 1) ↔ x ∈ zs.take t ∨ x = zs[t] := by
  rw [List.take_add_one, List.getElem?_eq_getElem ht]
  simp only [Option.toList, List.mem_append, List.mem_singleton]
/-- What the walk holds: cs as it lies, the first k of it done for the first t of zs. -/
structure CompIn (zs cs : List Nat) (k t : Nat) : Prop where
  len : cs.length = zs.length
  kt : k < t
  tn : t ≤ zs.length
  rest : ∀ p (h1 : p < cs.length) (h2 : p < zs.length), k ≤ p → cs[p] = zs[p]
  inc : (cs.take k).Pairwise (· < ·)
  mem : ∀ x, x ∈ cs.take k ↔ x ∈ zs.take t
theorem CompIn.same {zs cs : List Nat} {k t : Nat} (h : CompIn zs cs k t) (h0 : 1 ≤ t) (ht : t < zs.length) (he : zs[t] = zs[t - 1]) : CompIn zs cs k (t + 1) :=
  ⟨h.len, by have := h.kt; omega, ht, h.rest, h.inc, fun x => by
    rw [h.mem, take_mem ht]
    constructor
    · exact .inl
    · rintro (h | rfl)
      · exact h
      · rw [he]; exact List.mem_iff_getElem.2 ⟨t - 1, by rw [List.length_take]; omega, by rw [List.getElem_take]⟩⟩
theorem CompIn.more {zs cs : List Nat} {k t : Nat} (h : CompIn zs cs k t) (hs : zs.Pairwise (· ≤ ·)) (h0 : 1 ≤ t) (ht : t < zs.length) (he : zs[t] ≠ zs[t - 1]) : CompIn zs (cs.set k zs[t]) (k + 1) (t + 1) := by
  have hk : k < cs.length := by rw [h.len]; have := h.kt; omega
  have hlt : ∀ x ∈ cs.take k, x < zs[t] := fun x hx => by
    have h1 := take_lt hs ht h0 x ((h.mem x).1 hx)
    have h2 := List.pairwise_iff_getElem.1 hs (t - 1) t (by omega) ht (by omega)
    omega
  have htk : (cs.set k zs[t]).take (k + 1) = cs.take k ++ [zs[t]] := by
    rw [List.take_add_one, List.take_set_of_le (Nat.le_refl _), List.getElem?_set_self hk]; rfl
  refine ⟨by rw [List.length_set, h.len], by have := h.kt; omega, ht, fun p h1 h2 h3 => ?_, ?_, fun x => ?_⟩
  · rw [List.getElem_set_ne (by omega)]
    exact h.rest p (by rw [h.len]; exact h2) h2 (by omega)
  · rw [htk, List.pairwise_append]
    exact ⟨h.inc, by simp, fun x hx y hy => by rw [List.mem_singleton.1 hy]; exact hlt x hx⟩
  · rw [htk, List.mem_append, h.mem, take_mem ht, List.mem_singleton]
set_option maxRecDepth 100000 in
set_option maxHeartbeats 4000000 in
theorem compactU_any (base : Nat) (v : Value) (zs : List Nat) (w : World) (h : UOwn w base v zs) (hs : zs.Pairwise (· ≤ ·)) (hn : zs.length ≤ 1048576) :
    Calls Try.prog 62 #[v] w (CompTo base v zs w) := by
  obtain ⟨N, hN⟩ : ∃ N, N = zs.length := ⟨_, rfl⟩
  have HN := Lib.hid hN
  by_cases h2 : N < 2
  · obtain ⟨a, c, rfl⟩ := own_slice h
    have d1 : decide ((N : Int) < 2) = true := decide_eq_true (by omega)
    have d1' : decide (N < 2) = true := decide_eq_true h2
    have HO := Lib.hid h
    have HP : Hid (zs.Pairwise (· < ·)) := by
      unfold Hid
      match zs, hN with
      | [], _ => exact List.Pairwise.nil
      | [x], _ => simp
      | _ :: _ :: _, hN => simp at hN; omega
    rw [← hN]
    clear h hs hN
    go_enter Try.func62, Try.ntmps62
    go_wp2_with fail
    go_ret
    exact ⟨_, zs, by rw [HN.out]; rfl, HO.out, HP.out, fun x => Iff.rfl, Chg.refl _ _⟩
  · have h' := h
    obtain ⟨_, ⟨e, h3⟩ | ⟨g, cap, cur, rfl, hbg, hg, hnc, hcm, _⟩⟩ := h'
    · omega
    have hcap : N ≤ cap := by rw [hN]; exact hnc
    have hcb : cap ≤ 9223372036854775807 := by unfold maxLen at hcm; omega
    have HO := Lib.hid h
    have HSO := Lib.hid hs
    have HBG := Lib.hid hbg
    unfold UOwn at HO
    rw [← hN] at HO hn ⊢
    have d1 : decide ((N : Int) < 2) = false := decide_eq_false (by omega)
    have d1' : decide (N < 2) = false := decide_eq_false h2
    clear h hs hN hg hnc hcm hbg
    go_enter Try.func62, Try.ntmps62
    go_wp2_with fail
    go_loopw [3] (fun kv wr => ∃ k : Nat, kv = .int .i64 (k : Nat) ∧ 1 ≤ k ∧ k ≤ N ∧ Hid ((zs.take k).Pairwise (· < ·)) ∧ Hid (wr.ownsRow base 23 1 (.slice (some ⟨g, 0, none⟩) N cap) N (uL zs)) ∧ Hid (Chg (fun q => q = g) w wr)) (fun kv _ => N - (RowKit.intOf kv).toNat)
    case atStart =>
      refine ⟨1, rfl, Nat.le_refl _, by omega, ?_, HO.out, Chg.refl _ _⟩
      unfold Hid
      match zs with
      | [] => exact List.Pairwise.nil
      | x :: _ => simp
    case round =>
      obtain ⟨k, rfl, hk1, hkN, HP, HR, HC⟩ := hrel
      by_cases hlt : k < N
      · have g1 : decide ((k : Int) < (N : Int)) = true := decide_eq_true (by omega)
        have g1' : decide (k < N) = true := decide_eq_true hlt
        have hkl : k < zs.length := by rw [← HN.out]; exact hlt
        obtain ⟨t, ht⟩ : ∃ t, t = k - 1 := ⟨_, rfl⟩
        have htl : t < zs.length := by omega
        have c0 := u_cell HR.out hkl
        have c1 := u_cell HR.out htl
        have e1 : (k : Int) - 1 = (t : Int) := by omega
        have e2 : IntKind.i64.wrap (t : Int) = (t : Int) := by rw [IntKind.wrap_i64]; omega
        have hki : (k : Int) < (N : Int) := by omega
        have hti : (t : Int) < (N : Int) := by omega
        have HNE : Hid (zs[k] ≠ zs[t] → (zs.take (k + 1)).Pairwise (· < ·)) := fun hh => by
          subst ht
          rw [List.take_add_one, List.getElem?_eq_getElem hkl, List.pairwise_append]
          refine ⟨HP.out, by simp, fun x hx y hy => ?_⟩
          simp only [Option.toList, List.mem_singleton] at hy
          subst hy
          have q1 := take_lt HSO.out hkl hk1 x hx
          have q2 := List.pairwise_iff_getElem.1 HSO.out (k - 1) k (by omega) hkl (by omega)
          omega
        have HEQ : Hid (zs[k] = zs[t] → CompIn zs zs k (k + 1)) := fun hh => by
          subst ht
          refine ⟨rfl, by omega, by omega, fun p _ _ _ => rfl, HP.out, fun x => ?_⟩
          rw [take_mem hkl]
          constructor
          · exact .inl
          · rintro (h | rfl)
            · exact h
            · rw [hh]; exact List.mem_iff_getElem.2 ⟨k - 1, by rw [List.length_take]; omega, by rw [List.getElem_take]⟩
        obtain ⟨x, hx⟩ : ∃ x, x = zs[k] := ⟨_, rfl⟩
        obtain ⟨y, hy⟩ : ∃ x, x = zs[t] := ⟨_, rfl⟩
        rw [← hx] at c0 HNE HEQ
        rw [← hy] at c1 HNE HEQ
        clear hx hy ht HP
        by_cases hxy : x = y
        · have q1 : ((x : Int) == (y : Int)) = true := by simp [hxy]
          have q2 : (x == y) = true := by simp [hxy]
          have HI := Lib.hid (HEQ.out hxy)
          clear HNE HEQ hxy
          obtain ⟨D, hD⟩ : ∃ D, D = N - k := ⟨_, rfl⟩
          have hcl : ¬ cap = k := by omega
          have hkc : k ≤ cap := by omega
          have hsub : (N : Int) - (k : Int) = (D : Int) := by omega
          obtain ⟨wv, hwv⟩ : ∃ x, x = wr := ⟨_, rfl⟩
          subst hwv
          go_wp2_with fail
          go_quiet (fail)
          go_wp2_with fail
          have HW0 : Hid ((wv.drewN nq).ownsRow base 23 1 (.slice (some ⟨g, 0, none⟩) N cap) N (uL zs)) := own_older HR.out (below_drewN (Below.refl _ _) _)
          have HC0 : Hid (Chg (fun q => q = g) w (wv.drewN nq)) := HC.out.more (below_drewN (Below.refl _ _) _)
          have hDk : k + D = N := by omega
          go_loopw [3, 5] (fun kv tv wr => ∃ (kk t2 : Nat) (cs : List Nat), kv = .int .i64 (kk : Nat) ∧ tv = .int .i64 (t2 : Nat) ∧ 1 ≤ t2 ∧ t2 ≤ D ∧ kk < k + t2 ∧ Hid (CompIn zs cs kk (k + t2)) ∧ Hid (wr.ownsRow base 23 1 (.slice (some ⟨g, 0, none⟩) N cap) N (uL cs)) ∧ Hid (Chg (fun q => q = g) w wr)) (fun kv tv _ => D - (RowKit.intOf tv).toNat)
          case atStart => exact ⟨k, 1, zs, rfl, rfl, Nat.le_refl _, by omega, by omega, HI.out, HW0.out, HC0.out⟩
          case round =>
            clear c0 c1
            obtain ⟨kk, t2, cs, rfl, rfl, ht1, ht2, hkk, HK, HRc, HCc⟩ := hrel
            by_cases htl2 : t2 < D
            · have j1 : decide ((t2 : Int) < (D : Int)) = true := decide_eq_true (by omega)
              have j1' : decide (t2 < D) = true := decide_eq_true htl2
              have hTz : k + t2 < zs.length := by have := HN.out; omega
              have hTc : k + t2 < cs.length := by rw [HK.out.len]; exact hTz
              obtain ⟨u, hu⟩ : ∃ u, u = t2 - 1 := ⟨_, rfl⟩
              have hUz : k + u < zs.length := by omega
              have hUc : k + u < cs.length := by rw [HK.out.len]; exact hUz
              have c0 := u_cell HRc.out hTc
              have c1 := u_cell HRc.out hUc
              rw [HK.out.rest _ hTc hTz (by omega)] at c0
              rw [HK.out.rest _ hUc hUz (by omega)] at c1
              have e3 : (t2 : Int) - 1 = (u : Int) := by omega
              have e4 : IntKind.i64.wrap (u : Int) = (u : Int) := by rw [IntKind.wrap_i64]; omega
              have hti2 : (t2 : Int) < (D : Int) := by omega
              have hui2 : (u : Int) < (D : Int) := by omega
              have hkN : (kk : Int) < (N : Int) := by omega
              have hkN2 : kk < N := by omega
              have eu : k + u = k + t2 - 1 := by omega
              have HMO : Hid (zs[k + t2] ≠ zs[k + u] → CompIn zs (cs.set kk zs[k + t2]) (kk + 1) (k + (t2 + 1))) := fun hh => by
                have h := HK.out.more HSO.out (by omega) hTz (fun e => hh (by rw [e]; congr 1; omega))
                exact h
              have HSA : Hid (zs[k + t2] = zs[k + u] → CompIn zs cs kk (k + (t2 + 1))) := fun hh => HK.out.same (by omega) hTz (by rw [hh]; congr 1)
              obtain ⟨a, ha⟩ : ∃ x, x = zs[k + t2] := ⟨_, rfl⟩
              obtain ⟨b, hb⟩ : ∃ x, x = zs[k + u] := ⟨_, rfl⟩
              rw [← ha] at c0 HMO HSA
              rw [← hb] at c1 HMO HSA
              clear ha hb hu eu
              by_cases hab : a = b
              · have q3 : ((a : Int) != (b : Int)) = false := by simp [hab]
                have q4 : (a != b) = false := by simp [hab]
                have HF := Lib.hid (HSA.out hab)
                clear HMO HSA hab
                go_wp2_with fail
                go_quiet (fail)
                go_wp2_with fail
                go_roundw
                case rel => exact ⟨kk, t2 + 1, cs, by go_num, by go_num, by omega, htl2, by omega, HF.out, own_older HRc.out (below_drewN (Below.refl _ _) _), HCc.out.more (below_drewN (Below.refl _ _) _)⟩
                case measure => simp [RowKit.intOf]; omega
              · have q3 : ((a : Int) != (b : Int)) = true := by simp; omega
                have q4 : (a != b) = true := by simpa using hab
                have HF := Lib.hid (HMO.out hab)
                clear HMO HSA hab
                go_wp2_with fail
                go_quiet (fail)
                obtain ⟨W, hW⟩ : ∃ W, W = wr.drewN nq := ⟨_, rfl⟩
                have HRW : Hid (W.ownsRow base 23 1 (.slice (some ⟨g, 0, none⟩) N cap) N (uL cs)) := by unfold Hid; rw [hW]; exact own_older HRc.out (below_drewN (Below.refl _ _) _)
                have HCW : Hid (Chg (fun q => q = g) w W) := by unfold Hid; rw [hW]; exact HCc.out.more (below_drewN (Below.refl _ _) _)
                have w0 : W.cell? ⟨g, k + t2, none⟩ = some (.int .u32 (a : Nat)) := by rw [hW]; exact cell_next (below_drewN (Below.refl _ _) _) c0
                rw [← hW]
                clear hW c0 c1 HRc HCc
                obtain ⟨⟨cc, hcc⟩, hff, hst, hch⟩ := owns_put8 HRW.out (j := kk) (by omega) (.int .u32 (a : Nat))
                rw [← uL_set] at hst
                have HST := Lib.hid hst
                have HCH := Lib.hid (HCW.out.trans hch)
                clear hst hch
                go_wp2_with fail
                go_roundw
                case rel => exact ⟨kk + 1, t2 + 1, _, by go_num, by go_num, by omega, htl2, by omega, HF.out, HST.out, HCH.out⟩
                case measure => simp [RowKit.intOf]; omega
            · have j1 : decide ((t2 : Int) < (D : Int)) = false := decide_eq_false (by omega)
              have j1' : decide (t2 < D) = false := decide_eq_false htl2
              obtain ⟨w2, hcl2, ho2, hch2⟩ := clear8 HRc.out (k := kk) (by omega)
              have HO2 : Hid (UOwn w2 base (.slice (some ⟨g, 0, none⟩) kk cap) (cs.take kk)) := by
                have hll : (cs.take kk).length = kk := by rw [List.length_take, HK.out.len, ← HN.out]; omega
                unfold Hid UOwn
                rw [hll]
                have e : uL (cs.take kk) = (uL cs).take kk := by rw [uL_map, uL_map, List.map_take, List.map_take]
                rw [e]; exact ho2
              have HC2 := Lib.hid (HCc.out.trans hch2)
              have HMM : Hid (∀ x, x ∈ cs.take kk ↔ x ∈ zs) := fun x => by
                rw [HK.out.mem, List.take_of_length_le (by have := HN.out; omega)]
              have HII := Lib.hid HK.out.inc
              have hcl3 : ¬ cap = kk := by omega
              have hkc3 : kk ≤ cap := by omega
              have hll : (cs.take kk).length = kk := by rw [List.length_take, HK.out.len, ← HN.out]; omega
              have HLL := Lib.hid hll
              have hkN2 : kk ≤ N := by omega
              clear ho2 hch2 HK HRc HCc hll
              go_wp2_with (at_builtin; refine wpList_clear_run _ rfl _ 45 rfl _ rfl (hcl2 _ _) ?_)
              go_wp2_with fail
              go_ret
              exact ⟨_, cs.take kk, rfl, HO2.out, HII.out, HMM.out, HC2.out.weak fun q hq => by rw [hq]; rfl⟩
        · have q1 : ((x : Int) == (y : Int)) = false := by simp; omega
          have q2 : (x == y) = false := by simpa using hxy
          have HF := Lib.hid (HNE.out hxy)
          clear HNE HEQ hxy
          go_wp2_with fail
          go_quiet (fail)
          go_wp2_with fail
          go_roundw
          case rel => exact ⟨k + 1, by go_num, by omega, hlt, HF.out, HR.out, HC.out.more (below_drewN (Below.refl _ _) _)⟩
          case measure => simp [RowKit.intOf]; omega
      · have g1 : decide ((k : Int) < (N : Int)) = false := decide_eq_false (by omega)
        have g1' : decide (k < N) = false := decide_eq_false hlt
        have HF : Hid (zs.Pairwise (· < ·)) := by
          have := HP.out
          rw [List.take_of_length_le (by have := HN.out; omega)] at this; exact this
        have HR2 : Hid (UOwn wr base (.slice (some ⟨g, 0, none⟩) N cap) zs) := by unfold Hid UOwn; rw [← HN.out]; exact HR.out
        go_wp2_with fail
        go_ret
        exact ⟨_, zs, rfl, HR2.out, HF.out, fun x => Iff.rfl, HC.out.weak fun q hq => by rw [hq]; rfl⟩
end Go.Proofs.Ytfabjlhepadkpaa
