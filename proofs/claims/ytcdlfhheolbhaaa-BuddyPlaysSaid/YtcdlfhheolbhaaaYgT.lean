/-
  The document's yard in the memory: three cells, a row of blocks, a row of truth values; Size, all, open.
  The document's yard: open.
-/
import Derived.Test.YtcdlfhheolbhaaaYfQ
import Derived.Test.YtcdlfhheolbhaaaYfP
namespace Go.Proofs.Ytcdlfhheolbhaaa
set_option linter.unusedVariables false

section
open Go Go.RowKit Go.Lib
/-! Rows of truth values. -/
def boolL (l : List Bool) : List Value := l.map .bool
theorem boolL_len (l : List Bool) : (boolL l).length = l.length := by simp [boolL]
theorem boolL_app (a b : List Bool) : boolL (a ++ b) = boolL a ++ boolL b := by simp [boolL]
theorem boolL_get {l : List Bool} {i : Nat} (h : i < l.length) : (boolL l)[i]? = some (.bool (l.getD i false)) := by
  unfold boolL; rw [List.getElem?_map, List.getD_eq_getElem?_getD, List.getElem?_eq_getElem h]; rfl
theorem boolL_set (l : List Bool) (i : Nat) (v : Bool) : (boolL l).set i (.bool v) = boolL (l.set i v) := by unfold boolL; rw [List.map_set]
theorem Try.infoBo : (Try.prog.info? 4).map (fun i => (i.zero, i.size, i.bytes)) = some (some (.bool false), 1, 1) := by kernel_rfl
abbrev BoOwn (w : World) (base : Nat) (v : Value) (l : List Bool) : Prop := w.ownsRow base 4 1 v l.length (boolL l)
theorem bo_cells {w : World} {base g n c : Nat} {l : List Bool} (h : w.ownsRow base 4 1 (.slice (some ⟨g, 0, none⟩) n c) n (boolL l)) {x : Nat} (hx : x < l.length) : w.cell? ⟨g, x, none⟩ = some (.bool (l.getD x false)) := by
  have h1 := h.cells (g := g) rfl x _ (boolL_get hx)
  rw [Addr.add_lit, Nat.zero_add] at h1
  exact h1
theorem bo_free {w : World} {base g n c : Nat} {l : List Bool} (h : w.ownsRow base 4 1 (.slice (some ⟨g, 0, none⟩) n c) n (boolL l)) (x : Nat) : w.frozen? ⟨g, x, none⟩ = false := by
  rcases h.2 with ⟨e, _⟩ | ⟨g', cap, cur, e, _, hg, _⟩
  · cases e
  · injection e with e1
    injection e1 with e1
    injection e1 with e1
    subst e1
    simp [World.frozen?, hg]
theorem bo_addr {w : World} {base n c : Nat} {a : Option Addr} {xs : List Value} {e : TypeId} {s : Nat} (h : w.ownsRow base e s (.slice a n c) n xs) (hn : 0 < n) : ∃ g, a = some ⟨g, 0, none⟩ ∧ base ≤ g ∧ g < w.heap.size := by
  rcases h.2 with ⟨e, h0⟩ | ⟨g, cap, cur, e, hb, hg, _⟩
  · omega
  · exact ⟨g, by injection e, hb, (Array.getElem?_eq_some_iff.1 hg).1⟩
/-- A row of truth values that is read. -/
def BoRow (w : World) (v : Value) (l : List Bool) : Prop := ∃ g c, v = .slice (some ⟨g, 0, none⟩) l.length c ∧ 0 < l.length ∧ ∀ x, x < l.length → w.cell? ⟨g, x, none⟩ = some (.bool (l.getD x false))
theorem BoRow.kept {w w' : World} {v : Value} {l : List Bool} (h : BoRow w v l) (hb : Below w.heap.size w w') : BoRow w' v l := by
  obtain ⟨g, c, h1, h2, h3⟩ := h
  exact ⟨g, c, h1, h2, fun x hx => cell_next hb (h3 x hx)⟩
theorem borow_of_own {w : World} {base : Nat} {v : Value} {l : List Bool} (h : BoOwn w base v l) (h0 : 0 < l.length) : BoRow w v l := by
  obtain ⟨a, c, rfl⟩ := own_slice h
  obtain ⟨g, rfl, _, _⟩ := bo_addr h h0
  exact ⟨g, c, rfl, h0, fun x hx => bo_cells h hx⟩
def mkB (m : Nat) (f : Nat → Bool) : List Bool := (List.range m).map f
theorem mkB_len (m : Nat) (f : Nat → Bool) : (mkB m f).length = m := by simp [mkB]
theorem mkB_at {m x : Nat} {f : Nat → Bool} (h : x < m) : (mkB m f).getD x false = f x := by
  rw [List.getD_eq_getElem?_getD]; unfold mkB; rw [List.getElem?_map, List.getElem?_range h]; rfl
theorem mkB_succ (m : Nat) (f : Nat → Bool) : mkB (m + 1) f = mkB m f ++ [f m] := by unfold mkB; rw [List.range_succ, List.map_append]; rfl
theorem mkB_set {m x : Nat} {f : Nat → Bool} {v : Bool} (h : x < m) : (mkB m f).set x v = mkB m (fun y => if y = x then v else f y) := by
  refine List.ext_getElem (by simp [mkB]) fun i h1 h2 => ?_
  rw [List.getElem_set]
  by_cases e : x = i
  · subst e; simp [mkB]
  · have e2 : ¬ i = x := fun q => e q.symm
    simp [mkB, e, e2]
theorem mkB_congr {m : Nat} {f g : Nat → Bool} (h : f = g) : mkB m f = mkB m g := by rw [h]

/-! Size. -/
theorem rSize_any (o : Nat) (ho : o ≤ 10) (w : World) : Calls Try.prog 37 #[.int .i64 (o : Int)] w fun e w' => e = .returned (.int .i64 ((2 ^ o : Nat) : Int)) ∧ w' = w := by
  obtain ⟨Q, hQ⟩ : ∃ Q, Q = 2 ^ o := ⟨_, rfl⟩
  rw [← hQ]
  have HQ := Lib.hid hQ
  clear hQ
  go_enter Try.func37, Try.ntmps37
  go_wp2_with fail
  go_loop [3, 4] (fun n i => ∃ k P : Nat, k ≤ o ∧ i = .int .i64 k ∧ n = .int .i64 P ∧ Hid (P = 2 ^ k) ∧ P ≤ 1024) (fun _ i => o - (RowKit.intOf i).toNat)
  case atStart => exact ⟨0, 1, Nat.zero_le _, rfl, rfl, rfl, by omega⟩
  case round =>
    obtain ⟨k, P, hk, rfl, rfl, HP, hP⟩ := hrel
    by_cases hlt : k < o
    · have hd : decide (k < o) = true := decide_eq_true hlt
      have hi : (k : Int) < (o : Int) := by omega
      have h2 : P * 2 ≤ 1024 := by rw [HP.out, ← Nat.pow_succ]; exact pow_1024 (by omega)
      go_wp2_with fail
      go_round
      case rel => exact ⟨k + 1, P * 2, hlt, by go_num, by go_num, by unfold Hid; rw [HP.out, Nat.pow_succ], h2⟩
      case measure => simp [RowKit.intOf]; omega
    · have hd : decide (k < o) = false := decide_eq_false hlt
      have hi : ¬ (k : Int) < (o : Int) := by omega
      have hko : k = o := by omega
      obtain rfl : P = Q := by rw [HQ.out, ← hko]; exact HP.out
      clear hko hlt
      go_wp2_with fail
      go_ret
      exact ⟨rfl, rfl⟩

/-! Are all workers of a block free? -/
def AllPost (l : List Bool) (s m : Nat) (w : World) (e : Ending) (w' : World) : Prop := ∃ r, e = .returned (.bool r) ∧ (r = true ↔ ∀ x, s ≤ x → x < s + m → l.getD x false = true) ∧ w' = w
theorem all_any (v : Value) (l : List Bool) (s m : Nat) (w : World) (hv : BoRow w v l) (h : s + m ≤ l.length) (hl : l.length ≤ 4096) :
    Calls Try.prog 48 #[v, .int .i64 (s : Int), .int .i64 (m : Int)] w fun e w' => AllPost l s m w e w' := by
  obtain ⟨g, c, rfl, h0, hc⟩ := hv
  have HC := Lib.hid hc
  clear hc
  go_enter Try.func48, Try.ntmps48
  go_wp2_with fail
  go_loop [7] (fun i => ∃ k : Nat, k ≤ m ∧ i = .int .i64 ((s : Int) + (k : Int)) ∧ Hid (∀ x, s ≤ x → x < s + k → l.getD x false = true)) (fun i => s + m - (RowKit.intOf i).toNat)
  case atStart => exact ⟨0, Nat.zero_le _, by go_num, fun x h1 h2 => by omega⟩
  case round =>
    obtain ⟨k, hk, rfl, HA⟩ := hrel
    by_cases hlt : k < m
    · have hd : decide ((s : Int) + (k : Int) < (s : Int) + (m : Int)) = true := decide_eq_true (by omega)
      have hi : (s : Int) + (k : Int) < (s : Int) + (m : Int) := by omega
      have hi2 : (s : Int) + (k : Int) < (l.length : Int) := by omega
      have hi3 : s + k < l.length := by omega
      have hz : ((s : Int) + (k : Int)).toNat = s + k := by omega
      have c0 := HC.out (s + k) (by omega)
      obtain ⟨b, hb⟩ : ∃ b, b = l.getD (s + k) false := ⟨_, rfl⟩
      rw [← hb] at c0
      have HB := Lib.hid hb
      clear hb
      cases b with
      | true =>
        go_wp2_with fail
        go_round
        case rel => exact ⟨k + 1, hlt, by go_num, fun x h1 h2 => by
          rcases (by omega : x < s + k ∨ x = s + k) with h3 | rfl
          · exact HA.out x h1 h3
          · exact HB.out.symm⟩
        case measure => simp [RowKit.intOf]; omega
      | false =>
        go_wp2_with fail
        go_ret
        exact ⟨false, rfl, ⟨fun h => by (cases h), fun h => by rw [h (s + k) (by omega) (by omega)] at HB; exact absurd HB.out (by simp)⟩, rfl⟩
    · have hd : decide ((s : Int) + (k : Int) < (s : Int) + (m : Int)) = false := decide_eq_false (by omega)
      have hi : ¬ (s : Int) + (k : Int) < (s : Int) + (m : Int) := by omega
      go_wp2_with fail
      go_ret
      exact ⟨true, rfl, ⟨fun _ x h1 h2 => HA.out x h1 (by omega), fun _ => rfl⟩, rfl⟩
end

section
open Go Go.RowKit Go.Lib
structure ROk (n : Nat) (L : List Bk) (bad : List Bool) : Prop where
  n10 : n ≤ 10
  len : bad.length = 2 ^ n
  few : L.length ≤ 4096
  bk : ∀ b ∈ L, b.2 ≤ n ∧ b.1 + 2 ^ b.2 ≤ 2 ^ n
/-- The document's yard, read. -/
def RR (w : World) (b n : Nat) (L : List Bk) (bad : List Bool) : Prop := ∃ vL vB, w.cell? ⟨b, 0, none⟩ = some (.int .i64 (n : Int)) ∧ w.cell? ⟨b, 1, none⟩ = some vL ∧ w.cell? ⟨b, 2, none⟩ = some vB ∧ BRow w vL L ∧ BoRow w vB bad
theorem RR.kept {w w' : World} {b n : Nat} {L : List Bk} {bad : List Bool} (h : RR w b n L bad) (hb : Below w.heap.size w w') : RR w' b n L bad := by
  obtain ⟨vL, vB, h0, h1, h2, h3, h4⟩ := h
  exact ⟨vL, vB, cell_next hb h0, cell_next hb h1, cell_next hb h2, h3.kept hb, h4.kept hb⟩
def opnI (L : List Bk) (bad : List Bool) (i : Nat) (s j : Nat) : Nat → Bool := fun x => !bad.getD x false && !heldB (L.take i) x && !decide (s ≤ x ∧ x < s + j)
theorem opnI_zero (L : List Bk) (bad : List Bool) (i s : Nat) : opnI L bad i s 0 = fun x => !bad.getD x false && !heldB (L.take i) x := by
  funext x; unfold opnI; rw [decide_eq_false (by omega)]; simp
theorem opnI_succ (L : List Bk) (bad : List Bool) (i s j : Nat) : opnI L bad i s (j + 1) = fun x => if x = s + j then false else opnI L bad i s j x := by
  funext x; unfold opnI
  by_cases e : x = s + j
  · rw [if_pos e, decide_eq_true ⟨by omega, by omega⟩]; simp
  · rw [if_neg e]
    by_cases h : s ≤ x ∧ x < s + j
    · rw [decide_eq_true h, decide_eq_true ⟨h.1, by omega⟩]
    · rw [decide_eq_false h, decide_eq_false (fun q => h ⟨q.1, by omega⟩)]
theorem opnI_all {L : List Bk} {bad : List Bool} {i : Nat} (hi : i < L.length) : opnI L bad i (L[i]).1 (2 ^ (L[i]).2) = fun x => !bad.getD x false && !heldB (L.take (i + 1)) x := by
  funext x; unfold opnI
  have e : L.take (i + 1) = L.take i ++ [L[i]] := by rw [List.take_add_one, List.getElem?_eq_getElem hi]; rfl
  have e2 : heldB (L.take (i + 1)) x = (heldB (L.take i) x || decide ((L[i]).1 ≤ x ∧ x < (L[i]).1 + 2 ^ (L[i]).2)) := by
    rw [e]; unfold heldB; rw [List.any_append, List.any_cons, List.any_nil, Bool.or_false]
  rw [e2]
  cases bad.getD x false <;> cases heldB (L.take i) x <;> simp
def OpenPost (n : Nat) (L : List Bk) (bad : List Bool) (w : World) (e : Ending) (w' : World) : Prop := ∃ v, e = .returned v ∧ BoOwn w' w.heap.size v (openL n L bad) ∧ Below w.heap.size w w'
set_option maxHeartbeats 2000000 in
theorem open_any (b n : Nat) (L : List Bk) (bad : List Bool) (w : World) (hk : ROk n L bad) (h : RR w b n L bad) :
    Calls Try.prog 47 #[.pointer (some ⟨b, 0, none⟩)] w fun e w' => OpenPost n L bad w e w' := by
  obtain ⟨vL, vB, k0, k1, k2, hL, g, c, rfl, hb0, hbc⟩ := h
  obtain ⟨la, lc, rfl⟩ := hL.slice
  obtain ⟨i0, hi, hz0, hz1, hz2⟩ := info_parts Try.infoBo
  have hlen := hk.len
  have hn := pow_1024 hk.n10
  have hfew := hk.few
  obtain ⟨M, hM⟩ : ∃ M, M = 2 ^ n := ⟨_, rfl⟩
  rw [← hM] at hlen hn
  have HM := Lib.hid hM
  have HK := Lib.hid hk
  have HL := Lib.hid hL
  have HBC := Lib.hid hbc
  have K0 := Lib.hid k0
  have K1 := Lib.hid k1
  have K2 := Lib.hid k2
  rw [hlen] at k2 K2 hb0
  have HLEN := Lib.hid hlen
  obtain ⟨LN, hLN⟩ : ∃ LN, LN = L.length := ⟨_, rfl⟩
  rw [← hLN] at k1 K1 hfew
  have HLN := Lib.hid hLN
  have h0 : Below w.heap.size w w := Below.refl _ _
  clear hM hk hL hbc hlen hLN k0 k1 k2
  go_enter Try.func47, Try.ntmps47
  go_wp2_with fail
  go_loopw [3, 4] (fun sv i wr => ∃ (k : Nat) (sa : Option Addr) (sc : Nat), k ≤ M ∧ i = .int .i64 k ∧ sv = .slice sa k sc ∧ Hid (wr.ownsRow w.heap.size 4 1 (.slice sa k sc) k (boolL (mkB k fun x => !bad.getD x false))) ∧ Hid (Below w.heap.size w wr)) (fun _ i _ => M - (RowKit.intOf i).toNat)
  case atStart => exact ⟨0, none, 0, Nat.zero_le _, rfl, rfl, World.ownsRow_nil _ _ _ _, h0⟩
  case round =>
    obtain ⟨k, sa, sc, hk, rfl, rfl, HS, HB⟩ := hrel
    have c1 := cell_next HB.out K1.out
    have c2 := cell_next HB.out K2.out
    by_cases hlt : k < M
    · have hd : decide (k < M) = true := decide_eq_true hlt
      have hki : (k : Int) < (M : Int) := by omega
      have cb := cell_next HB.out (HBC.out k (by rw [HLEN.out]; exact hlt))
      have hms : mkB (k + 1) (fun x => !bad.getD x false) = mkB k (fun x => !bad.getD x false) ++ [!bad.getD k false] := mkB_succ _ _
      obtain ⟨bk, hbk⟩ : ∃ bk, bk = bad.getD k false := ⟨_, rfl⟩
      rw [← hbk] at cb hms
      have HMS := Lib.hid hms
      have HNEW : Hid (∀ q u, ([Value.bool (!bk)])[q]? = some u → (wr.alloc (.cells #[.bool (!bk)] 4)).cell? ((⟨wr.heap.size, 0, none⟩ : Addr).add q) = some u) := news_alloc wr [.bool (!bk)] 4
      have HOA := Lib.hid (HS.out.alloc (.cells #[.bool (!bk)] 4))
      clear hms hbk c1
      go_wp2_with (at_builtin; refine wpList_append_own_at _ rfl _ _ 66 rfl w.heap.size 4 i0 _ 1 1 Try.underlying66 hi hz0 hz1 hz2 rfl (by decide) _ _ _ rfl HOA.out _ 1 1 [.bool (!bk)] rfl rfl HNEW.out (by intro u hu; simp at hu; subst hu; rfl) (by unfold maxLen; omega) (by omega) (by simp; exact Nat.le_succ_of_le HB.out.size) ?_; intro v5 w5 hown5 hgrow5 hnil5 hat5; obtain ⟨a5, c5, rfl⟩ := own_slice hown5)
      go_roundw
      case measure => simp [RowKit.intOf]; omega
      case rel =>
        refine ⟨k + 1, a5, c5, hlt, by go_num, rfl, ?_, ?_⟩
        · unfold Hid; rw [HMS.out, boolL_app]; exact hown5
        · exact (HB.out.alloc HB.out.size _).grown hgrow5 (by simp; exact Nat.le_succ_of_le HB.out.size) (fun g hg => (HS.out.lt g hg).1)
    · have hd : decide (k < M) = false := decide_eq_false hlt
      have hki : ¬ (k : Int) < (M : Int) := by omega
      obtain rfl : M = k := by omega
      have HS0 : Hid (wr.ownsRow w.heap.size 4 1 (.slice sa M sc) M (boolL (mkB M fun x => !bad.getD x false && !heldB (L.take 0) x))) := by
        unfold Hid
        rw [show (fun x => !bad.getD x false && !heldB (L.take 0) x) = (fun x => !bad.getD x false) by funext x; simp [heldB]]
        exact HS.out
      obtain ⟨gS, hsa, hgS1, hgS2⟩ := bo_addr HS.out hb0
      subst hsa
      clear hlt hk c1 c2 hd hki
      have c2 := cell_next HB.out K2.out
      go_wp2_with fail
      go_loopw [5] (fun i wr => ∃ k : Nat, k ≤ LN ∧ i = .int .i64 k ∧ Hid (wr.ownsRow w.heap.size 4 1 (.slice (some ⟨gS, 0, none⟩) M sc) M (boolL (mkB M fun x => !bad.getD x false && !heldB (L.take k) x))) ∧ Hid (Below w.heap.size w wr)) (fun i _ => LN - (RowKit.intOf i).toNat)
      case atStart => exact ⟨0, Nat.zero_le _, rfl, HS0, HB⟩
      case round =>
        obtain ⟨k, hk, rfl, HSk, HBk⟩ := hrel
        have c1 := cell_next HBk.out K1.out
        by_cases hlt : k < LN
        · have hd : decide (k < LN) = true := decide_eq_true hlt
          have hki : (k : Int) < (LN : Int) := by omega
          have hkL : k < L.length := by rw [← HLN.out]; exact hlt
          obtain ⟨q, off, cL, hqv, _, _, _, hcell⟩ : ∃ q off c, Value.slice la L.length lc = .slice (some ⟨q, off, none⟩) L.length c ∧ 0 < L.length ∧ L.length ≤ c ∧ c ≤ maxLen ∧ BCells w q off L := by
            rcases HL.out with ⟨e, _⟩ | h
            · rw [e] at hkL; simp at hkL
            · exact h
          have hqa : la = some ⟨q, off, none⟩ := by injection hqv
          subst hqa
          have hcr := hcell.kept HBk.out
          obtain ⟨d0, d1⟩ := hcr k hkL
          have hbk := HK.out.bk _ (List.getElem_mem hkL)
          have hall := opnI_all (bad := bad) hkL
          obtain ⟨⟨bs, bo⟩, hbb⟩ : ∃ b', b' = L[k] := ⟨_, rfl⟩
          rw [← hbb] at d0 d1 hbk hall
          dsimp only at d0 d1 hbk hall
          obtain ⟨hbo, hbs⟩ := hbk
          have hn10 := HK.out.n10
          have SZ := Lib.hid (rSize_any bo (by omega) wr)
          rw [← HM.out] at hbs
          obtain ⟨P, hP⟩ : ∃ P, P = 2 ^ bo := ⟨_, rfl⟩
          rw [← hP] at SZ hbs hall
          have HALL := Lib.hid hall
          have D0 : Hid (w.cell? ⟨q, off + k * 2, none⟩ = some (.int .i64 (bs : Int))) := by
            have := (hcell k hkL).1; rw [← hbb] at this; exact this
          have HSI : Hid (wr.ownsRow w.heap.size 4 1 (.slice (some ⟨gS, 0, none⟩) M sc) M (boolL (mkB M (opnI L bad k bs 0)))) := by unfold Hid; rw [opnI_zero]; exact HSk.out
          clear hqv hcr hcell hall hbb hP d0
          go_wp2_with fail
          refine SZ.out.mono ?_; rintro e w2 ⟨rfl, hw⟩; subst hw
          clear c1 d1 SZ
          go_wp2_with fail
          go_loopw [7] (fun i wr => ∃ j : Nat, j ≤ P ∧ i = .int .i64 j ∧ Hid (wr.ownsRow w.heap.size 4 1 (.slice (some ⟨gS, 0, none⟩) M sc) M (boolL (mkB M (opnI L bad k bs j)))) ∧ Hid (Below w.heap.size w wr)) (fun i _ => P - (RowKit.intOf i).toNat)
          case atStart => exact ⟨0, Nat.zero_le _, rfl, HSI, HBk⟩
          case round =>
            obtain ⟨j, hj, rfl, HSj, HBj⟩ := hrel
            by_cases hltj : j < P
            · have hdj : decide (j < P) = true := decide_eq_true hltj
              have hji : (j : Int) < (P : Int) := by omega
              have e1 := cell_next HBj.out K1.out
              have e2 := cell_next HBj.out D0.out
              have hx : bs + j < M := by omega
              have hxi : (bs : Int) + (j : Int) < (M : Int) := by omega
              have hxz : ((bs : Int) + (j : Int)).toNat = bs + j := by omega
              have hc0 := bo_cells HSj.out (x := bs + j) (by rw [mkB_len]; exact hx)
              have hf0 := bo_free HSj.out (bs + j)
              go_wp2_with fail
              go_roundw
              case rel =>
                refine ⟨j + 1, hltj, by go_num, ?_, HBj.out.setCell (by exact hgS1) _⟩
                unfold Hid
                rw [opnI_succ, ← mkB_set hx, ← boolL_set]
                exact (HSj.out.stored (bs + j) (.bool false)).1
              case measure => simp [RowKit.intOf]; omega
            · have hdj : decide (j < P) = false := decide_eq_false hltj
              have hji : ¬ (j : Int) < (P : Int) := by omega
              have hjP : j = P := by omega
              have HSn : Hid (wr.ownsRow w.heap.size 4 1 (.slice (some ⟨gS, 0, none⟩) M sc) M (boolL (mkB M fun x => !bad.getD x false && !heldB (L.take (k + 1)) x))) := by
                unfold Hid
                rw [← HALL.out, ← hjP]; exact HSj.out
              clear hjP hltj
              go_wp2_with fail
              go_roundw
              case rel => exact ⟨k + 1, hlt, by go_num, HSn, HBj⟩
              case measure => simp [RowKit.intOf]; omega
        · have hd : decide (k < LN) = false := decide_eq_false hlt
          have hki : ¬ (k : Int) < (LN : Int) := by omega
          have HSn : Hid (BoOwn wr w.heap.size (.slice (some ⟨gS, 0, none⟩) M sc) (openL n L bad)) := by
            unfold Hid
            have := HSk.out
            rw [List.take_of_length_le (by rw [← HLN.out]; omega)] at this
            have e : openL n L bad = mkB M (fun x => !bad.getD x false && !heldB L x) := by rw [HM.out]; rfl
            show wr.ownsRow w.heap.size 4 1 _ (openL n L bad).length (boolL (openL n L bad))
            rw [e, mkB_len]; exact this
          clear hlt hk
          go_wp2_with fail
          go_ret
          exact ⟨_, rfl, HSn.out, HBk.out⟩
end

end Go.Proofs.Ytcdlfhheolbhaaa
