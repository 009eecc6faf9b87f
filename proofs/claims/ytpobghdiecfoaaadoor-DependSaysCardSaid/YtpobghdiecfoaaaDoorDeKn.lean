/-
  gangerlaw08.known.
-/
import Derived.Test.YtpobghdiecfoaaaDoorDePQS
import Derived.Test.YtpobghdiecfoaaaDoorDePp
import Derived.Test.YtpobghdiecfoaaaDoorDePr
import Derived.Test.YtpobghdiecfoaaaDoorDeKZ
import Derived.Test.YtpobghdiecfoaaaDoorDeJJ
import Derived.Test.YtpobghdiecfoaaaDoorSuHI
namespace Go.Proofs.YtpobghdiecfoaaaDoor
open Go Go.RowKit Go.Lib
set_option linter.unusedVariables false

/-- What the library's contracts ask of the world. -/
def Env8 (w : World) : Prop := (∃ m, w.cell? ⟨1, 0, none⟩ = some (.int .i64 m)) ∧ TabW w
theorem Env8.next {w w' : World} (h : Env8 w) (hb : Below w.heap.size w w') : Env8 w' := ⟨by obtain ⟨m, hm⟩ := h.1; exact ⟨m, cell_next hb hm⟩, h.2.next hb⟩
theorem sortU8 : SortU 1048576 := sort_all.mono (by decide)
/-- A dependency that was read, with its row's slice. -/
theorem DepTo.out {a : Bool} {L : List Nd} {x : Int} {base : Nat} {e : Ending} {w : World} (h : DepTo (a, L, x) base e w) :
    ∃ va vc l, e = .returned (.tuple #[.agg #[.bool a, .slice va L.length vc], .int .i64 x]) ∧ NdOwn w base (.slice va L.length vc) l ∧ NRw w (.slice va L.length vc) l ∧ ndsOf l = L := by
  obtain ⟨v, l, he, ho, hn, h1, h2, h3⟩ := h
  obtain ⟨va, vc, rfl⟩ := own_slice ho.row
  dsimp only at he hn
  have hl : l.length = L.length := by rw [← hn, ndsOf_len]
  rw [hl] at he ho
  exact ⟨va, vc, l, he, ho, ho.nrw h1 h2 h3, hn⟩
theorem JobsTo.len {any : Bool} {l : List NdM} {os : List Nat} (h : JobsTo any l os) {xs : List Nat} (hx : xs.Pairwise (· < ·)) (hm : ∀ x, x ∈ xs ↔ okD any (ndsOf l) ∧ x ∈ jobsAll l) : os = xs :=
  strict_eq h.1 hx fun x => (h.2 x).trans (hm x).symm
theorem jobsAll_nds (l : List NdM) : jobsAll l = (ndsOf l).flatMap Prod.snd := by unfold jobsAll ndsOf toNd; rw [List.flatMap_map]
theorem row_blk {w : World} {g : Nat} {l : List Wh} {n : Nat} (h : Blk w g (l.flatMap whV).toArray 54) (hn : n = l.length) (hm : n ≤ 1000) : RowG 2 whV w (.slice (some ⟨g, 0, none⟩) n n) l := by
  subst hn
  have hs : (l.flatMap whV).toArray.size = l.length * 2 := by
    rw [List.size_toArray]
    exact flatG_len whV_len l
  have ho := own_of_blk (s := 2) (n := l.length) (base := 0) h (Nat.zero_le _) hs (by unfold maxLen; omega)
  exact rowG_of_own whV_len ho
set_option maxRecDepth 100000 in
set_option maxHeartbeats 4000000 in
theorem known8_any (w : World) (hE : Env8 w) : Calls Tryd.prog 11 #[] w fun e w' => e = .returned (.bool true) ∧ Below w.heap.size w w' := by
  have HE : Hid (∀ w', Below w.heap.size w w' → Env8 w') := fun w' hb => hE.next hb
  have P1 : Hid (∀ w', Below w.heap.size w w' → Calls Tryd.prog 21 #[.string ⟨#[97, 102, 116, 101, 114, 111, 107, 58, 49, 50, 58, 49, 51, 44, 115, 105, 110, 103, 108, 101, 116, 111, 110]⟩] w' fun e w2 => DepTo (false, nd1, 0) w'.heap.size e w2 ∧ Below w'.heap.size w' w2) := fun w' hb => by
    obtain ⟨m, hm⟩ := (HE.out w' hb).1
    have h := parse8_any tx1 m w' (by decide) hm
    rw [parse1] at h
    exact h
  have P2 : Hid (∀ w', Below w.heap.size w w' → Calls Tryd.prog 21 #[.string ⟨#[97, 102, 116, 101, 114, 58, 49, 63, 97, 102, 116, 101, 114, 111, 107, 58, 50]⟩] w' fun e w2 => DepTo (true, nd2, 0) w'.heap.size e w2 ∧ Below w'.heap.size w' w2) := fun w' hb => by
    obtain ⟨m, hm⟩ := (HE.out w' hb).1
    have h := parse8_any tx2 m w' (by decide) hm
    rw [parse2] at h
    exact h
  have P3 : Hid (∀ w', Below w.heap.size w w' → Calls Tryd.prog 21 #[.string ⟨#[97, 102, 116, 101, 114, 111, 107]⟩] w' fun e w2 => DepTo (false, [], 60) w'.heap.size e w2 ∧ Below w'.heap.size w' w2) := fun w' hb => by
    obtain ⟨m, hm⟩ := (HE.out w' hb).1
    have h := parse8_any tx3 m w' (by decide) hm
    rw [parse3] at h
    exact h
  clear hE
  go_enter Tryd.func11, Tryd.ntmps11
  go_wp2_with fail
  refine (P1.out w (Below.refl _ _)).mono ?_; rintro e w1 ⟨hd1, b1⟩
  obtain ⟨va, vc, l1, rfl, -, hr1, hn1⟩ := hd1.out
  obtain ⟨G1, hG1⟩ : ∃ g, g = w1.heap.size := ⟨_, rfl⟩
  obtain ⟨W1, hW1⟩ : ∃ x, x = w1.alloc (.cells #[.bool false, .slice va 2 vc] 24) := ⟨_, rfl⟩
  have hbW1 : Below w1.heap.size w1 W1 := by rw [hW1]; exact (Below.refl _ _).alloc (Nat.le_refl _) _
  have HK1 : Hid (Blk W1 G1 #[.bool false, .slice va 2 vc] 24) := by unfold Hid; rw [hW1, hG1]; exact Blk.new _ _ _
  have HR1 : Hid (NRw W1 (.slice va 2 vc) l1) := hr1.kept hbW1
  have HN1 : Hid (ndsOf l1 = nd1) := hn1
  have HB1 := Lib.hid (below_next hbW1 b1)
  have HW1 := Lib.hid hW1
  have HG1 := Lib.hid hG1
  have hlen : nd1.length = 2 := rfl
  clear hd1 b1 hr1 hn1 hG1 hW1 hbW1
  go_upto_region 2 with fail
  rw [← HW1.out, ← HG1.out]
  clear HW1 HG1
  have k0 := HK1.out.cell 0
  have k1 := HK1.out.cell 1
  simp at k0 k1
  have SA : Hid (∀ w1, Below W1.heap.size W1 w1 → Calls Tryd.prog 23 #[.agg #[.bool false, .slice va 2 vc], .slice (some ⟨w1.heap.size, 0, none⟩) 2 2, .bool true] (w1.alloc (.cells #[.int .u32 12, .int .i64 3, .int .u32 13, .int .i64 2] 54)) fun e w' => e = .returned (.int .i64 1) ∧ Below (w1.alloc (.cells #[.int .u32 12, .int .i64 3, .int .u32 13, .int .i64 2] 54)).heap.size (w1.alloc (.cells #[.int .u32 12, .int .i64 3, .int .u32 13, .int .i64 2] 54)) w') := fun w1 hb => by
    have h := say_any false (.slice va 2 vc) l1 (.slice (some ⟨w1.heap.size, 0, none⟩) 2 2) [(12, 3), (13, 2)] true (w1.alloc (.cells #[.int .u32 12, .int .i64 3, .int .u32 13, .int .i64 2] 54)) ((HR1.out.kept hb).kept ((Below.refl _ _).alloc (Nat.le_refl _) _)) (row_blk (Blk.new _ _ _) rfl (by decide)) (by decide)
    rw [HN1.out, say1] at h
    exact h
  have SB : Hid (∀ w1, Below W1.heap.size W1 w1 → Calls Tryd.prog 23 #[.agg #[.bool false, .slice va 2 vc], .slice (some ⟨w1.heap.size, 0, none⟩) 2 2, .bool true] (w1.alloc (.cells #[.int .u32 12, .int .i64 3, .int .u32 13, .int .i64 4] 54)) fun e w' => e = .returned (.int .i64 3) ∧ Below (w1.alloc (.cells #[.int .u32 12, .int .i64 3, .int .u32 13, .int .i64 4] 54)).heap.size (w1.alloc (.cells #[.int .u32 12, .int .i64 3, .int .u32 13, .int .i64 4] 54)) w') := fun w1 hb => by
    have h := say_any false (.slice va 2 vc) l1 (.slice (some ⟨w1.heap.size, 0, none⟩) 2 2) [(12, 3), (13, 4)] true (w1.alloc (.cells #[.int .u32 12, .int .i64 3, .int .u32 13, .int .i64 4] 54)) ((HR1.out.kept hb).kept ((Below.refl _ _).alloc (Nat.le_refl _) _)) (row_blk (Blk.new _ _ _) rfl (by decide)) (by decide)
    rw [HN1.out, say2] at h
    exact h
  have AL : Hid (∀ (w1 : World) (o : Obj), Below w1.heap.size w1 (w1.alloc o)) := fun w1 o => (Below.refl _ _).alloc (Nat.le_refl _) _
  go_wp2_with fail
  refine (SA.out W1 (Below.refl _ _)).mono ?_; rintro e w2 ⟨rfl, b2⟩
  have HB2 := Lib.hid (below_next b2 (AL.out W1 _))
  clear b2 SA
  have k02 := cell_next HB2.out k0
  have k12 := cell_next HB2.out k1
  go_wp2_with fail
  refine (SB.out w2 HB2.out).mono ?_; rintro e w3 ⟨rfl, b3⟩
  have HB3 := Lib.hid (below_next (below_next b3 (AL.out w2 _)) HB2.out)
  clear b3 SB HB2 k02 k12
  go_wp2_with fail
  refine (P2.out w3 (below_next HB3.out HB1.out)).mono ?_; rintro e w4 ⟨hd2, b4⟩
  obtain ⟨vb, vd, l2, rfl, -, hr2, hn2⟩ := hd2.out
  have HB4 := Lib.hid (below_next b4 HB3.out)
  obtain ⟨G2, hG2⟩ : ∃ g, g = w4.heap.size := ⟨_, rfl⟩
  obtain ⟨W2, hW2⟩ : ∃ x, x = w4.alloc (.cells #[.bool true, .slice vb 2 vd] 24) := ⟨_, rfl⟩
  have hbW2 : Below w4.heap.size w4 W2 := by rw [hW2]; exact (Below.refl _ _).alloc (Nat.le_refl _) _
  have HK2 : Hid (Blk W2 G2 #[.bool true, .slice vb 2 vd] 24) := by unfold Hid; rw [hW2, hG2]; exact Blk.new _ _ _
  have HR2 : Hid (NRw W2 (.slice vb 2 vd) l2) := hr2.kept hbW2
  have HN2 : Hid (ndsOf l2 = nd2) := hn2
  have HB12 := Lib.hid (below_next hbW2 HB4.out)
  have HW2 := Lib.hid hW2
  have HG2 := Lib.hid hG2
  have hlen2 : nd2.length = 2 := rfl
  clear hd2 b4 hr2 hn2 hG2 hW2 hbW2 HB3 HB4 P2
  have SC : Hid (Calls Tryd.prog 23 #[.agg #[.bool true, .slice vb 2 vd], .slice (some ⟨W2.heap.size, 0, none⟩) 1 1, .bool false] (W2.alloc (.cells #[.int .u32 1, .int .i64 2] 54)) fun e w' => e = .returned (.int .i64 2) ∧ Below (W2.alloc (.cells #[.int .u32 1, .int .i64 2] 54)).heap.size (W2.alloc (.cells #[.int .u32 1, .int .i64 2] 54)) w') := by
    have h := say_any true (.slice vb 2 vd) l2 (.slice (some ⟨W2.heap.size, 0, none⟩) 1 1) [(1, 2)] false (W2.alloc (.cells #[.int .u32 1, .int .i64 2] 54)) (HR2.out.kept (AL.out _ _)) (row_blk (Blk.new _ _ _) rfl (by decide)) (by decide)
    rw [HN2.out, say3] at h
    exact h
  have g0 := HK2.out.cell 0
  have g1 := HK2.out.cell 1
  simp at g0 g1
  go_upto_region 5 with fail
  rw [← HW2.out, ← HG2.out]
  clear HW2 HG2
  go_wp2_with fail
  refine SC.out.mono ?_; rintro e w5 ⟨rfl, b5⟩
  have HB5 := Lib.hid (below_next b5 (AL.out W2 _))
  clear b5 SC
  have HB15 := Lib.hid (below_next HB5.out HB12.out)
  have PR := print8_any false (.slice va 2 vc) l1 w5 (HR1.out.kept HB15.out) (HE.out w5 (below_next HB15.out HB1.out)).2
  rw [HN1.out, print1] at PR
  have HPR : Hid (Calls Tryd.prog 14 #[.agg #[.bool false, .slice va 2 vc]] w5 fun e w' => e = .returned (.tuple #[.string ⟨#[97, 102, 116, 101, 114, 111, 107, 58, 49, 50, 58, 49, 51, 44, 115, 105, 110, 103, 108, 101, 116, 111, 110]⟩, .int .i64 0]) ∧ Below w5.heap.size w5 w') := PR
  have k05 := cell_next HB15.out k0
  have k15 := cell_next HB15.out k1
  clear PR
  go_wp2_with fail
  refine HPR.out.mono ?_; rintro e w6 ⟨rfl, b6⟩
  have HB6 := Lib.hid (below_next b6 HB5.out)
  have HB16 := Lib.hid (below_next b6 HB15.out)
  clear b6 HPR HB5 HB15 k05 k15
  go_wp2_with fail
  refine (P3.out w6 (below_next HB16.out HB1.out)).mono ?_; rintro e w7 ⟨hd3, b7⟩
  obtain ⟨vx, vy, l3, rfl, -, _, _⟩ := hd3.out
  have HB7 := Lib.hid (below_next b7 HB6.out)
  have HB17 := Lib.hid (below_next b7 HB16.out)
  obtain ⟨W3, hW3⟩ : ∃ x, x = w7.alloc (.cells #[.bool false, .slice vx 0 vy] 24) := ⟨_, rfl⟩
  have hbW3 : Below w7.heap.size w7 W3 := by rw [hW3]; exact (Below.refl _ _).alloc (Nat.le_refl _) _
  have HBZ := Lib.hid (below_next hbW3 HB7.out)
  have HB1Z := Lib.hid (below_next hbW3 HB17.out)
  have HW3 := Lib.hid hW3
  have hlen3 : ([] : List Nd).length = 0 := rfl
  clear hd3 b7 P3 HB6 HB16 HB7 HB17 hW3 hbW3
  have JB := Lib.hid (jobs_any sortU8 false (.slice va 2 vc) l1 W3 (HR1.out.kept HB1Z.out))
  have k0z := cell_next HB1Z.out k0
  have k1z := cell_next HB1Z.out k1
  have g0z := cell_next HBZ.out g0
  have g1z := cell_next HBZ.out g1
  go_upto_region 8 with fail
  rw [← HW3.out]
  clear HW3
  go_wp2_with fail
  refine JB.out.mono ?_; rintro e w8 ⟨⟨v8, os, rfl, ho8, hJ⟩, b8⟩
  have hos : os = [12, 13] := hJ.len (by decide) (fun x => by
    rw [jobsAll_nds, HN1.out]
    constructor
    · intro h
      exact ⟨ok1, by simpa [nd1] using h⟩
    · rintro ⟨_, h⟩
      simpa [nd1] using h)
  subst hos
  obtain ⟨a8, c8, rfl⟩ := own_slice ho8
  have HFIN := Lib.hid (below_next (below_next b8 HB1Z.out) HB1.out)
  have hl8 : ([12, 13] : List Nat).length = 2 := rfl
  clear hJ b8 JB ho8
  go_wp2_with fail
  go_returns
  exact ⟨rfl, HFIN.out⟩
end Go.Proofs.YtpobghdiecfoaaaDoor
