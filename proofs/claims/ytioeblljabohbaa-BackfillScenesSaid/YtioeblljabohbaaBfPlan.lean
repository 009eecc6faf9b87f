/-
  A plan's board and its slots, in the memory.
  A plan, job by job, plainly.
  backfill.plan.
  backfill.plan where it refuses; FIFO, Easy, Conservative.
  FIFO, Easy, Conservative: where they answer, and where they refuse.
-/
import Derived.Test.YtioeblljabohbaaBfJj
import Derived.Test.YtioeblljabohbaaBfHh
import Derived.Test.YtioeblljabohbaaApp
namespace Go.Proofs.Ytioeblljabohbaa
set_option linter.unusedVariables false

section
open Go Go.RowKit Go.Lib Go.Sort
def slE (x : SlT) : List Value := [.int .u32 (x.1 : Nat), .int .i64 (x.2.1 : Nat), .int .i64 (x.2.2.1 : Nat), .int .i64 (x.2.2.2.1 : Nat)]
theorem slE_len (x : SlT) : (slE x).length = 4 := rfl
def slF (S : List SlT) : List Value := S.flatMap slE
abbrev SlOwn (w : World) (base : Nat) (v : Value) (S : List SlT) : Prop := w.ownsRow base 55 4 v S.length (slF S)
theorem slF_app (a b : List SlT) : slF (a ++ b) = slF a ++ slF b := by unfold slF; rw [List.flatMap_append]
theorem slF_one (S : List SlT) : ∀ u ∈ slF S, u.oneCell' = true := by
  intro u hu
  obtain ⟨x, _, hx⟩ := List.mem_flatMap.1 hu
  simp [slE] at hx
  rcases hx with rfl | rfl | rfl | rfl <;> rfl
/-- The board with H held, and the slots S, in v. -/
structure PB (w : World) (bd B0 n : Nat) (vf : Value) (H : List HeT) (v : Value) (S : List SlT) : Prop where
  ex : ∃ vF vT F T, Blk w bd #[.int .i64 (n : Nat), vf, vF, vT] 85 ∧ B0 ≤ bd ∧ HOwn w B0 vF F ∧ HOwn w B0 vT T ∧ vF.ownBlock ≠ some bd ∧ vT.ownBlock ≠ some bd ∧ (∀ g, vF.ownBlock = some g → vT.ownBlock ≠ some g) ∧
    F.Perm H ∧ T.Perm H ∧ SortedF F ∧ SortedT T ∧ v.ownBlock ≠ some bd ∧ (∀ g, vF.ownBlock = some g → v.ownBlock ≠ some g) ∧ ∀ g, vT.ownBlock = some g → v.ownBlock ≠ some g
  sl : SlOwn w B0 v S
theorem PB.kept {w w' : World} {bd B0 n : Nat} {vf : Value} {H : List HeT} {v : Value} {S : List SlT} (h : PB w bd B0 n vf H v S) (hb : Below w.heap.size w w') : PB w' bd B0 n vf H v S := by
  obtain ⟨⟨vF, vT, F, T, h1, h2, h3, h4, h5⟩, h6⟩ := h
  exact ⟨⟨vF, vT, F, T, h1.kept hb, h2, own_older h3 hb, own_older h4 hb, h5⟩, own_older h6 hb⟩
theorem PB.lt {w : World} {bd B0 n : Nat} {vf : Value} {H : List HeT} {v : Value} {S : List SlT} (h : PB w bd B0 n vf H v S) : bd < w.heap.size ∧ B0 ≤ bd := by
  obtain ⟨⟨vF, vT, F, T, h1, h2, _⟩, _⟩ := h
  exact ⟨h1.lt, h2⟩
theorem PB.set {w : World} {bd B0 n : Nat} {vf : Value} {H : List HeT} {v : Value} {S : List SlT} (h : PB w bd B0 n vf H v S) {w' : World} {b : Nat} (hc : Chg (fun k => w.heap.size ≤ k) w w') : PB w' bd B0 n vf H v S :=
  h.kept ⟨hc.os, hc.tape, hc.output, hc.size, fun k hk => hc.block k hk (by omega)⟩
/-- A board that was just made, beside no slots. -/
theorem PB.start {w w' : World} {bd B0 n : Nat} {vf : Value} {fl : List Nat} {F T H : List HeT} {v : Value} (h : BdI w bd B0 n fl F T) (hvf : ∃ vF vT, Blk w bd #[.int .i64 (n : Nat), vf, vF, vT] 85) (hb : Below w.heap.size w w')
    (hF : F.Perm H) (hT : T.Perm H) (sF : SortedF F) (sT : SortedT T) (hv : SlOwn w' w.heap.size v []) (hB : B0 ≤ w.heap.size) : PB w' bd B0 n vf H v [] := by
  obtain ⟨vf', vF, vT, h1, h2, h3, h4, h5, h6, h7, h8⟩ := h
  obtain ⟨vF2, vT2, h9⟩ := hvf
  have e : vf' = vf := by
    have a := h1.cell 1
    have b := h9.cell 1
    simp at a b
    rw [a] at b; injection b
  subst e
  have hlt := h1.lt
  have hf := fun {g} (hg : vF.ownBlock = some g) => (own_ge h4 hg).2
  have ht := fun {g} (hg : vT.ownBlock = some g) => (own_ge h5 hg).2
  have hvg := fun {g} (hg : v.ownBlock = some g) => (own_ge hv hg).1
  exact ⟨⟨vF, vT, F, T, h1.kept hb, h2, own_older h4 hb, own_older h5 hb, h6, h7, h8, hF, hT, sF, sT, fun e => by have := hvg e; omega, fun g e1 e2 => by have := hvg e2; have := hf e1; omega, fun g e1 e2 => by have := hvg e2; have := ht e1; omega⟩, own_low hv hB⟩
/-- The board as the ways to find a place take it. -/
theorem PB.bd {w : World} {bd B0 n : Nat} {vf : Value} {fl : List Nat} {H : List HeT} {v : Value} {S : List SlT} (h : PB w bd B0 n vf H v S) (hg : GRow w vf (nsI fl)) : ∃ F T, BdI w bd B0 n fl F T ∧ F.Perm H ∧ T.Perm H ∧ SortedF F ∧ SortedT T := by
  obtain ⟨⟨vF, vT, F, T, h1, h2, h3, h4, h5, h6, h7, h8, h9, h10, h11, _⟩, _⟩ := h
  exact ⟨F, T, ⟨vf, vF, vT, h1, h2, hg, h3, h4, h5, h6, h7⟩, h8, h9, h10, h11⟩
theorem PB.ever {w : World} {bd B0 n : Nat} {vf : Value} {fl : List Nat} {H : List HeT} {v : Value} {S : List SlT} (h : PB w bd B0 n vf H v S) (hg : GRow w vf (nsI fl)) (q : Nat) (id len : Int) (hn : n ≤ 10) (hfl : ∀ x ∈ fl, x < 2 ^ n) (hfn : fl.length ≤ 1024) :
    Calls Try.prog 59 #[.pointer (some ⟨bd, 0, none⟩), .agg #[.int .u32 id, .int .i64 (q : Nat), .int .i64 len]] w fun e w' => e = .returned (.bool (everB n fl q)) ∧ Below w.heap.size w w' := by
  obtain ⟨F, T, hb, _⟩ := h.bd hg
  exact ever_any bd B0 n q id len fl F T w hb hn hfl hfn
theorem PB.way {w : World} {bd B0 n : Nat} {vf : Value} {fl : List Nat} {H : List HeT} {v : Value} {S : List SlT} (h : PB w bd B0 n vf H v S) (hg : GRow w vf (nsI fl)) (md q now len : Nat) (id : Int) (hn : n ≤ 10) (hq : q ≤ n) (hfl : ∀ x ∈ fl, x < 2 ^ n) (hfn : fl.length ≤ 1024)
    (hF : ∀ h ∈ H, heOk2 n h) (hFl : H.length ≤ 1023) (hnow : now ≤ 1099511627776) (hlen : len ≤ 1099511627776) :
    Calls Try.prog (wayF md) #[.pointer (some ⟨bd, 0, none⟩), .agg #[.int .u32 id, .int .i64 (q : Nat), .int .i64 (len : Nat)], .int .i64 (now : Nat)] w fun e w' => ∃ x r, e = .returned (.tuple #[slV x, .bool r]) ∧ WayTo (placeB n fl H md q now len) id q x r ∧ Below w.heap.size w w' := by
  obtain ⟨F, T, hb, h1, h2, h3, h4⟩ := h.bd hg
  exact way_any md bd B0 n q now len id fl F T H w hb hn hq hfl hfn hF hFl h1 h2 h3 h4 hnow hlen
/-- One more slot. -/
theorem PB.app {w w' : World} {bd B0 n : Nat} {vf : Value} {H : List HeT} {v v' : Value} {S : List SlT} {x : SlT} (h : PB w bd B0 n vf H v S) (ho : w'.ownsRow B0 55 4 v' (S.length + 1) (slF S ++ slE x)) (hg : w.grownBy w' v.ownBlock) (ha : v'.ownBlock = v.ownBlock ∨ v'.ownBlock = some w.heap.size) : PB w' bd B0 n vf H v' (S ++ [x]) := by
  obtain ⟨⟨vF, vT, F, T, h1, h2, h3, h4, h5, h6, h7, h8, h9, h10, h11, h12, h13, h14⟩, hs⟩ := h
  have hbd := h1.lt
  have k3 : HOwn w' B0 vF F := h3.kept hg (ob_cases v.ownBlock (p := fun r => vF.ownBlock = none ∨ vF.ownBlock ≠ r) (by cases vF.ownBlock <;> simp) (fun g hv => .inr (fun e => h13 g e hv)))
  have k4 : HOwn w' B0 vT T := h4.kept hg (ob_cases v.ownBlock (p := fun r => vT.ownBlock = none ∨ vT.ownBlock ≠ r) (by cases vT.ownBlock <;> simp) (fun g hv => .inr (fun e => h14 g e hv)))
  refine ⟨⟨vF, vT, F, T, blk_grown h1 hg (Ne.symm h12), h2, k3, k4, h5, h6, h7, h8, h9, h10, h11, ?_, ?_, ?_⟩, ?_⟩
  · rcases ha with e | e <;> rw [e]
    · exact h12
    · intro e2; injection e2 with e2; omega
  · intro g hF
    rcases ha with e | e <;> rw [e]
    · exact h13 g hF
    · intro e2; injection e2 with e2; have := (own_ge h3 hF).2; omega
  · intro g hT
    rcases ha with e | e <;> rw [e]
    · exact h14 g hT
    · intro e2; injection e2 with e2; have := (own_ge h4 hT).2; omega
  · show w'.ownsRow B0 _ 4 v' (S ++ [x]).length (slF (S ++ [x]))
    rw [slF_app, List.length_append]
    have e : slF [x] = slE x := by unfold slF; simp
    rw [e]; exact ho
/-- One more held. -/
theorem PB.hold {w : World} {bd B0 n : Nat} {vf : Value} {H : List HeT} {v : Value} {S : List SlT} (h : PB w bd B0 n vf H v S) (k : HeT) (hH : H.length ≤ 1024) :
    Calls Try.prog 60 #[.pointer (some ⟨bd, 0, none⟩), .agg #[.int .i64 (k.1 : Nat), .int .i64 (k.2.1 : Nat), .int .i64 (k.2.2.1 : Nat), .int .i64 (k.2.2.2 : Nat)]] w fun e w' => e = .returned (.tuple #[]) ∧ PB w' bd B0 n vf (k :: H) v S ∧ Below B0 w w' := by
  obtain ⟨⟨vF, vT, F, T, h1, h2, h3, h4, h5, h6, h7, h8, h9, h10, h11, h12, h13, h14⟩, hs⟩ := h
  refine (hold_any bd B0 n vf vF vT F T k w h1 h2 h3 h4 h5 h6 h7 ⟨_, 4, v, S.length, slF S⟩ hs h12 h13 h14 (by rw [h8.length_eq]; exact hH) (by rw [h9.length_eq]; exact hH) h10 h11).mono ?_
  rintro e w' ⟨rfl, vF', vT', F', T', a1, a2, a3, a4, a5, a6, a7, a8, a9, a10, a11, a12, a13, a14⟩
  exact ⟨rfl, ⟨⟨vF', vT', F', T', a1, h2, a2, a3, a4, a5, a6, a7.trans (h8.cons k), a8.trans (h9.cons k), a9, a10, h12, a13, a14⟩, a12⟩, a11⟩
end

section
open Go Go.RowKit Go.Lib Go.Sort
/-- Up to when a slot goes that k jobs stand ahead of. -/
def bndK (k : Nat) : Nat := 4398046511104 + k * 1099511627776
theorem bndK_succ (k : Nat) : bndK (k + 1) = bndK k + 1099511627776 := by unfold bndK; rw [Nat.succ_mul, Nat.add_assoc]
theorem bndK_zero : bndK 0 = 4398046511104 := by unfold bndK; rw [Nat.zero_mul]
theorem bndK_ge (k : Nat) : 4398046511104 ≤ bndK k := Nat.le_add_right _ _
theorem bndK_300 {k : Nat} (h : k ≤ 300) : bndK k ≤ 4503599627370496 := by
  have : k * 1099511627776 ≤ 300 * 1099511627776 := Nat.mul_le_mul_right _ h
  unfold bndK
  omega
/-- Where a plan stands ahead of job k. -/
structure PSt (n : Nat) (fl : List Nat) (now wait after f0 : Nat) (WS : List (Nat × Nat × Nat)) (hl : List HeT) (k fnd : Nat) (wts : Bool) (H : List HeT) (S : List SlT) : Prop where
  eq : planL n fl now wait after WS hl f0 false = S ++ planL n fl now wait after (WS.drop k) H fnd wts
  he : ∀ h ∈ H, blkOk n h.1 h.2.1 ∧ h.2.2.1 < h.2.2.2 ∧ h.2.2.2 ≤ bndK k
  hl : H.length ≤ 300 + k
  sl : S.length ≤ k
section
variable {n : Nat} {fl : List Nat} {now wait after f0 : Nat} {WS : List (Nat × Nat × Nat)} {hl : List HeT} {k fnd : Nat} {wts : Bool} {H : List HeT} {S : List SlT}
theorem PSt.start (hc : ScOk ⟨n, fl, hl⟩) : PSt n fl now wait after f0 WS hl 0 f0 false hl [] :=
  ⟨rfl, fun h hh => by obtain ⟨a, b, c⟩ := hc.he h hh; exact ⟨a, b, by unfold endT at c; rw [bndK_zero]; exact c⟩, by have := hc.len; dsimp only at this; omega, Nat.le_refl _⟩
theorem PSt.heOk (h : PSt n fl now wait after f0 WS hl k fnd wts H S) (hk : k ≤ 300) : (∀ x ∈ H, heOk2 n x) ∧ H.length ≤ 1023 :=
  ⟨fun x hx => And.intro (h.he x hx).1 (And.intro (h.he x hx).2.1 (Nat.le_trans (h.he x hx).2.2 (bndK_300 hk))), Nat.le_trans h.hl (by omega)⟩
theorem PSt.done (h : PSt n fl now wait after f0 WS hl k fnd wts H S) (hk : WS.length ≤ k) : planL n fl now wait after WS hl f0 false = S := by
  rw [h.eq, List.drop_eq_nil_of_le hk, planL, List.append_nil]
theorem PSt.wider (h : ∀ h ∈ H, blkOk n h.1 h.2.1 ∧ h.2.2.1 < h.2.2.2 ∧ h.2.2.2 ≤ bndK k) : ∀ h ∈ H, blkOk n h.1 h.2.1 ∧ h.2.2.1 < h.2.2.2 ∧ h.2.2.2 ≤ bndK (k + 1) :=
  fun x hx => And.intro (h x hx).1 (And.intro (h x hx).2.1 (Nat.le_trans (h x hx).2.2 (by rw [bndK_succ]; exact Nat.le_add_right _ _)))
variable {id q len : Nat}
theorem drop_at (hw : WS[k]? = some (id, q, len)) : WS.drop k = (id, q, len) :: WS.drop (k + 1) := by
  obtain ⟨hk, e⟩ := List.getElem?_eq_some_iff.1 hw
  rw [List.drop_eq_getElem_cons hk, e]
theorem PSt.skip (h : PSt n fl now wait after f0 WS hl k fnd wts H S) (hw : WS[k]? = some (id, q, len)) (he : everB n fl q = false) : PSt n fl now wait after f0 WS hl (k + 1) fnd wts H S :=
  ⟨by rw [h.eq, drop_at hw, planL, if_pos he], PSt.wider h.he, by have := h.hl; omega, by have := h.sl; omega⟩
theorem PSt.new (h : PSt n fl now wait after f0 WS hl k fnd wts H S) {md t s : Nat} (hq : q ≤ n) (hp : placeB n fl H md q now len = some (t, s)) (hnow : now ≤ 1099511627776) (h1 : 1 ≤ len) (h2 : len ≤ 1099511627776) :
    (∀ x ∈ (s, q, t, t + len) :: H, blkOk n x.1 x.2.1 ∧ x.2.2.1 < x.2.2.2 ∧ x.2.2.2 ≤ bndK (k + 1)) ∧ t ≤ bndK k := by
  obtain ⟨p1, p2, _, p4⟩ := placeB_ok hq hp
  have hg := bndK_ge k
  have ht := p4 (bndK k) (by omega) (fun x hx => (h.he x hx).2.2)
  refine ⟨fun x hx => ?_, ht⟩
  rcases List.mem_cons.1 hx with rfl | hx
  · exact ⟨p1, by dsimp only; omega, by rw [bndK_succ]; exact Nat.add_le_add ht h2⟩
  · exact PSt.wider h.he x hx
theorem PSt.take (h : PSt n fl now wait after f0 WS hl k fnd wts H S) (hw : WS[k]? = some (id, q, len)) (he : everB n fl q = true) {t s : Nat} (hp : placeB n fl H fnd q now len = some (t, s)) (hnow : now ≤ 1099511627776) (h1 : 1 ≤ len) (h2 : len ≤ 1099511627776) :
    PSt n fl now wait after f0 WS hl (k + 1) fnd wts ((s, q, t, t + len) :: H) (S ++ [(id, s, q, t, len)]) :=
  ⟨by rw [h.eq, drop_at hw, planL, if_neg (by rw [he]; decide), hp]; dsimp only; rw [List.append_assoc]; rfl, (h.new (everB_le (by rw [he]; decide)) hp hnow h1 h2).1, by have := h.hl; simp; omega, by have := h.sl; simp; omega⟩
theorem PSt.stay (h : PSt n fl now wait after f0 WS hl k fnd wts H S) (hw : WS[k]? = some (id, q, len)) (he : everB n fl q = true) (hp : placeB n fl H fnd q now len = none) (hwt : wts = true) :
    PSt n fl now wait after f0 WS hl (k + 1) fnd wts H S :=
  ⟨by rw [h.eq, drop_at hw, planL, if_neg (by rw [he]; decide), hp]; dsimp only; rw [if_pos hwt], PSt.wider h.he, by have := h.hl; omega, by have := h.sl; omega⟩
theorem PSt.turn (h : PSt n fl now wait after f0 WS hl k fnd wts H S) (hw : WS[k]? = some (id, q, len)) (he : everB n fl q = true) (hp : placeB n fl H fnd q now len = none) (hwt : wts = false) {t s : Nat} (hp2 : placeB n fl H wait q now len = some (t, s)) (hnow : now ≤ 1099511627776) (h1 : 1 ≤ len) (h2 : len ≤ 1099511627776) :
    PSt n fl now wait after f0 WS hl (k + 1) after true ((s, q, t, t + len) :: H) (S ++ [(id, s, q, t, len)]) :=
  ⟨by rw [h.eq, drop_at hw, planL, if_neg (by rw [he]; decide), hp]; dsimp only; rw [if_neg (by rw [hwt]; decide), hp2]; dsimp only; rw [List.append_assoc]; rfl, (h.new (everB_le (by rw [he]; decide)) hp2 hnow h1 h2).1, by have := h.hl; simp; omega, by have := h.sl; simp; omega⟩
theorem PSt.pass (h : PSt n fl now wait after f0 WS hl k fnd wts H S) (hw : WS[k]? = some (id, q, len)) (he : everB n fl q = true) (hp : placeB n fl H fnd q now len = none) (hwt : wts = false) (hp2 : placeB n fl H wait q now len = none) :
    PSt n fl now wait after f0 WS hl (k + 1) after true H S :=
  ⟨by rw [h.eq, drop_at hw, planL, if_neg (by rw [he]; decide), hp]; dsimp only; rw [if_neg (by rw [hwt]; decide), hp2], PSt.wider h.he, by have := h.hl; omega, by have := h.sl; omega⟩
end
end

section
open Go Go.RowKit Go.Lib Go.Sort
theorem Try.infoSlot : (Try.prog.info? 55).map (fun i => (i.zero, i.size, i.bytes)) = some (some (.agg #[.int .u32 0, .int .i64 0, .int .i64 0, .int .i64 0]), 4, 32) := by kernel_rfl
def waN (x : Nat × Nat × Nat) : WaI := ((x.1 : Int), (x.2.1 : Int), (x.2.2 : Int))
theorem end4c {w w1 : World} {B g : Nat} {c0 c1 c2 c3 : Value} {ty : TypeId} (h : Blk w1 g #[c0, c1, c2, c3] ty) (hB : Below B w w1) (hg : B ≤ g) (u0 u1 u2 u3 : Value) :
    ∃ W4, (((w1.setCell ⟨g, 0, none⟩ u0).setCell ⟨g, 1, none⟩ u1).setCell ⟨g, 2, none⟩ u2).setCell ⟨g, 3, none⟩ u3 = W4 ∧ Blk W4 g #[u0, u1, u2, u3] ty ∧ Below B w W4 :=
  ⟨_, rfl, (((h.set 0 u0).set 1 u1).set 2 u2).set 3 u3, (((hB.setCell (p := ⟨g, 0, none⟩) hg _).setCell (p := ⟨g, 1, none⟩) hg _).setCell (p := ⟨g, 2, none⟩) hg _).setCell (p := ⟨g, 3, none⟩) hg _⟩
theorem slE_one (x : SlT) : ∀ u ∈ slE x, u.oneCell' = true := by
  intro u hu
  simp [slE] at hu
  rcases hu with rfl | rfl | rfl | rfl <;> rfl
theorem src_sl {w : World} {b : Nat} {ty : TypeId} {x : SlT} (h : Blk w b (slE x).toArray ty) : Src w 4 (.slice (some ⟨b, 0, none⟩) 1 1) 1 (slE x) := by
  refine ⟨rfl, .inr ⟨_, 1, rfl, fun j u hu => ?_⟩⟩
  rw [Addr.add_lit, Nat.zero_add, h.cell, ← Array.getElem?_toList]
  exact hu
theorem ne_own {v : Value} {g m : Nat} (h : ∀ j, v.ownBlock = some j → j < m) (hg : m ≤ g) : some g ≠ v.ownBlock := fun e => by have := h g e.symm; omega
theorem call_way (md : Nat) (args : Array Value) (w : World) : (callFunc (wayF md) args).run Try.prog w = .ok (.enter (wayF md) args) w := by
  unfold wayF
  split
  · rfl
  · split
    · rfl
    · rfl
abbrev fvM (md : Nat) : Value := .func (.func (wayF md)) #[] #[]
abbrev poV (f wt a : Nat) : Value := .agg #[fvM f, fvM wt, fvM a]
set_option maxRecDepth 100000 in
set_option maxHeartbeats 8000000 in
theorem plan_any (vf vh vw : Value) (n : Nat) (fl : List Nat) (hl : List HeT) (WS : List (Nat × Nat × Nat)) (now f0 wt af : Nat) (w : World) (hr : SRow w vf vh ⟨n, fl, hl⟩) (hw : WRow w vw (WS.map waN)) (hask : Ask (n : Int) (nsI fl) (hl.map heZ) (WS.map waN) (now : Int)) (hc : ScOk ⟨n, fl, hl⟩) (hwl : WS.length ≤ 300) (hnow : now ≤ 1099511627776) (hws : ∀ x ∈ WS, 1 ≤ x.2.2 ∧ x.2.2 ≤ 1099511627776) :
    Calls Try.prog 42 #[.agg #[.int .i64 (n : Nat), vf, vh], vw, .int .i64 (now : Nat), poV f0 wt af] w fun e w' => ∃ v, e = .returned (.tuple #[v, .int .i64 0]) ∧ SlOwn w' w.heap.size v (planL n fl now wt af WS hl f0 false) ∧ Below w.heap.size w w' := by
  obtain ⟨i0, hi, hz0, hz1, hz2⟩ := info_parts Try.infoSlot
  have hfn : fl.length ≤ 1024 := by have h1 := fl_len hc; have h2 := hc.n10; have h3 := pow_1024 h2; dsimp only at h1 h2 h3; omega
  have CK : Hid (∀ w1, Below w.heap.size w w1 → Calls Try.prog 58 #[.agg #[.int .i64 (n : Nat), vf, vh], vw, .int .i64 (now : Nat)] w1 fun e w' => e = .returned (.int .i64 0) ∧ Below w1.heap.size w1 w') := fun w1 h1 => by
    refine (ask_any (n : Int) (now : Int) vf vh vw _ _ _ w1 (hr.f.kept h1) (hr.h.kept h1) (hw.kept h1) (by rw [nsI_len]; show fl.length ≤ maxLen; unfold maxLen; omega) (by rw [List.length_map]; have := hc.len; dsimp only at this; show hl.length ≤ maxLen; unfold maxLen; omega) (by rw [List.length_map]; unfold maxLen; omega)).mono ?_
    rintro e w' ⟨er, rfl, ⟨rfl, _⟩ | ⟨_, h⟩, hb⟩
    · exact ⟨rfl, hb⟩
    · exact absurd hask h
  have NB : Hid (∀ w1, Below w.heap.size w w1 → Calls Try.prog 35 #[.agg #[.int .i64 (n : Nat), vf, vh]] w1 fun e w' => ∃ b F T, e = .returned (.pointer (some ⟨b, 0, none⟩)) ∧ BdI w' b w1.heap.size n fl F T ∧ SortedF F ∧ F.Perm hl ∧ SortedT T ∧ T.Perm hl ∧ Below w1.heap.size w1 w' ∧ ∃ vF vT, Blk w' b #[.int .i64 (n : Nat), vf, vF, vT] 85) := fun w1 h1 =>
    newBoard_any2 n vf vh fl hl w1 (hr.f.kept h1) (hr.h.kept h1) (by have := hc.len; dsimp only at this; omega)
  have HG := Lib.hid hr.f
  have HW := Lib.hid hw
  have HC := Lib.hid hc
  have HWS := Lib.hid hws
  have HFN := Lib.hid hfn
  obtain ⟨fa, fc, rfl⟩ := hr.f.slice
  obtain ⟨ha, hcc, rfl⟩ := hr.h.slice
  obtain ⟨wa, wc, rfl⟩ := hw.slice
  obtain ⟨LW, hLW⟩ : ∃ x, x = (WS.map waN).length := ⟨_, rfl⟩
  have hLWe : LW = WS.length := by rw [hLW, List.length_map]
  rw [← hLW] at CK HW ⊢
  have HLW := Lib.hid hLWe
  have hLW3 : LW ≤ 300 := by omega
  obtain ⟨LF, hLF⟩ : ∃ x, x = (nsI fl).length := ⟨_, rfl⟩
  obtain ⟨LH, hLH⟩ : ∃ x, x = (hl.map heZ).length := ⟨_, rfl⟩
  rw [← hLF] at CK NB HG ⊢
  rw [← hLH] at CK NB ⊢
  clear hr hw hask hc hwl hws hfn hLW hLWe hLF hLH
  obtain ⟨W, hW⟩ : ∃ W, W = (w.alloc (.cells #[.int .i64 (n : Nat), .slice fa LF fc, .slice ha LH hcc] 25)).alloc (.cells #[fvM f0, fvM wt, fvM af] 80) := ⟨_, rfl⟩
  obtain ⟨gS, hgS⟩ : ∃ g, g = w.heap.size := ⟨_, rfl⟩
  obtain ⟨gP, hgP⟩ : ∃ g, g = w.heap.size + 1 := ⟨_, rfl⟩
  have HBW : Hid (Below w.heap.size w W) := by unfold Hid; rw [hW]; exact ((Below.refl _ _).alloc (Nat.le_refl _) _).alloc (by simp) _
  have HS : Hid (Blk W gS #[.int .i64 (n : Nat), .slice fa LF fc, .slice ha LH hcc] 25) := by unfold Hid; rw [hW, hgS]; exact (Blk.new w _ _).old _
  have HP : Hid (Blk W gP #[fvM f0, fvM wt, fvM af] 80) := by
    have h := Blk.new (w.alloc (.cells #[.int .i64 (n : Nat), .slice fa LF fc, .slice ha LH hcc] 25)) #[fvM f0, fvM wt, fvM af] 80
    have e : (w.alloc (.cells #[.int .i64 (n : Nat), .slice fa LF fc, .slice ha LH hcc] 25)).heap.size = w.heap.size + 1 := by simp
    rw [e] at h
    unfold Hid; rw [hW, hgP]; exact h
  have s0 := HS.out.cell 0
  have s1 := HS.out.cell 1
  have s2 := HS.out.cell 2
  simp at s0 s1 s2
  go_enter Try.func42, Try.ntmps42
  go_upto_region 1 with fail
  rw [← hgP, ← hgS, ← hW]
  clear hgP hgS hW
  go_wp2_with fail
  refine (CK.out _ HBW.out).mono ?_; rintro e w1 ⟨rfl, b1⟩
  have HB1 := Lib.hid (below_next b1 HBW.out)
  have HP1 := Lib.hid (HP.out.kept b1)
  have HS1 := HS.out.kept b1
  clear s0 s1 s2
  have s0 := HS1.cell 0
  have s1 := HS1.cell 1
  have s2 := HS1.cell 2
  simp at s0 s1 s2
  clear b1 CK HBW HP HS HS1
  go_wp2_with fail
  refine (NB.out _ HB1.out).mono ?_; rintro e w2 ⟨bd, F, T, rfl, hbd, sF, pF, sT, pT, b2, vF0, vT0, hbb⟩
  obtain ⟨B0, hB0⟩ : ∃ b, b = w1.heap.size := ⟨_, rfl⟩
  rw [← hB0] at hbd
  obtain ⟨W3, hW3⟩ : ∃ W, W = w2.alloc (.cells #[] 55) := ⟨_, rfl⟩
  have hb23 : Below w2.heap.size w2 W3 := by rw [hW3]; exact (Below.refl _ _).alloc (Nat.le_refl _) _
  have HPB3 : Hid (PB W3 bd B0 n (.slice fa LF fc) hl (.slice (some ⟨w2.heap.size, 0, none⟩) 0 0) []) := by
    refine PB.start hbd ⟨_, _, hbb⟩ hb23 pF pT sF sT ?_ (by rw [hB0]; exact b2.size)
    rw [hW3]
    exact World.ownsRow_made (e := 55) (size := 4) w2 #[] 0 (Nat.le_refl _) (Nat.zero_le _) rfl
  have HB3 : Hid (Below B0 w1 W3) := by unfold Hid; rw [hB0]; exact below_next hb23 b2
  have HB01 : Hid (B0 = w1.heap.size) := hB0
  have HP3 := HP1.out.kept b2
  have p0 := HP3.cell 0
  simp at p0
  have HZ : Hid (w.heap.size ≤ B0) := by unfold Hid; rw [hB0]; exact HB1.out.size
  have HPS := Lib.hid (PSt.start (now := now) (wait := wt) (after := af) (f0 := f0) (WS := WS) HC.out)
  clear hbb hB0 hb23 hbd sF pF sT pT b2 NB s0 s1 s2 HP3
  go_upto_region 7 with fail
  rw [← hW3]
  obtain ⟨gZ, hgZ⟩ : ∃ g, g = w2.heap.size := ⟨_, rfl⟩
  rw [← hgZ] at HPB3 ⊢
  clear hW3 hgZ p0
  go_wp2_with fail
  go_loopw [12, 13, 14, 33] (fun fv wv sv iv wr => ∃ (k fnd : Nat) (wts : Bool) (H : List HeT) (S : List SlT) (a : Option Addr) (c : Nat), k ≤ LW ∧ fv = .func (.func (wayF fnd)) #[] #[] ∧ wv = .bool wts ∧ sv = .slice a S.length c ∧ iv = .int .i64 k ∧ Hid (PSt n fl now wt af f0 WS hl k fnd wts H S) ∧ Hid (PB wr bd B0 n (.slice fa LF fc) H (.slice a S.length c) S) ∧ Hid (Below B0 w1 wr)) (fun _ _ _ iv _ => LW - (RowKit.intOf iv).toNat)
  case atStart => exact ⟨0, f0, false, hl, [], _, _, Nat.zero_le _, rfl, rfl, rfl, rfl, HPS, HPB3, HB3⟩
  case round =>
    clear HPS HPB3 HB3
    obtain ⟨k, fnd, wts, H, S, sa, sc, hk, rfl, rfl, rfl, rfl, HPS, HPB, HB⟩ := hrel
    have HWr : Hid (Below w.heap.size w wr) := HB1.out.trans (HB.out.mono HZ.out)
    by_cases hlt : k < LW
    · have hd : decide (k < LW) = true := decide_eq_true hlt
      have hki : (k : Int) < (LW : Int) := by omega
      have hkl : k < WS.length := by rw [← HLW.out]; exact hlt
      have hkm : k < (WS.map waN).length := by rw [List.length_map]; exact hkl
      cases wa with
      | none => have := wrow_none HW.out; rw [this] at hkm; simp at hkm
      | some A =>
      obtain ⟨bb, off, rfl⟩ := wrow_some HW.out (by omega)
      obtain ⟨c0, c1, c2⟩ := wa_cells HW.out hkm HWr.out
      rw [List.getElem_map] at c0 c1 c2
      obtain ⟨x, hx⟩ : ∃ x, WS[k] = x := ⟨_, rfl⟩
      have HX := HWS.out _ (List.getElem_mem hkl)
      rw [hx] at c0 c1 c2 HX
      obtain ⟨id, q, len⟩ := x
      unfold waN at c0 c1 c2
      dsimp only at c0 c1 c2 HX
      obtain ⟨hl1, hl2⟩ := HX
      have HXE : Hid (WS[k]? = some (id, q, len)) := List.getElem?_eq_some_iff.2 ⟨hkl, hx⟩
      have hk300 : k ≤ 300 := by omega
      obtain ⟨hk2, hk3⟩ := HPS.out.heOk hk300
      have HHE := Lib.hid hk2
      have HHL : Hid (H.length ≤ 1024) := Nat.le_trans hk3 (by omega)
      have HH3 := Lib.hid hk3
      have HGr : Hid (∀ w', Below wr.heap.size wr w' → GRow w' (.slice fa LF fc) (nsI fl)) := fun w' h => HG.out.kept (below_next h HWr.out)
      obtain ⟨LS, hLS⟩ : ∃ x, x = S.length := ⟨_, rfl⟩
      rw [← hLS] at HPB ⊢
      have HLS : Hid (S.length = LS) := hLS.symm
      have hLS3 : LS ≤ 300 := by have := HPS.out.sl; omega
      have HOLT : Hid (∀ j, (Value.slice sa LS sc).ownBlock = some j → j < wr.heap.size) := fun j hj => (own_ge HPB.out.sl hj).2
      clear hx hkl hkm hk2 hk3 hLS
      obtain ⟨gW, hgW⟩ : ∃ g, g = wr.heap.size := ⟨_, rfl⟩
      obtain ⟨W2, hW2⟩ : ∃ W, W = wr.alloc (.cells #[.int .u32 (id : Nat), .int .i64 (q : Nat), .int .i64 (len : Nat)] 51) := ⟨_, rfl⟩
      have hBW2 : Below wr.heap.size wr W2 := by rw [hW2]; exact (Below.refl _ _).alloc (Nat.le_refl _) _
      have HWB : Hid (Blk W2 gW #[.int .u32 (id : Nat), .int .i64 (q : Nat), .int .i64 (len : Nat)] 51) := by unfold Hid; rw [hW2, hgW]; exact Blk.new _ _ _
      have HBW2 := Lib.hid hBW2
      have HB0r : Hid (B0 ≤ wr.heap.size) := by unfold Hid; have := HPB.out.lt; omega
      have HGW : Hid (gW = wr.heap.size) := hgW
      have HPB2 := Lib.hid (HPB.out.kept hBW2)
      have HB2 : Hid (Below B0 w1 W2) := HB.out.trans (hBW2.mono HB0r.out)
      have HEV := Lib.hid (HPB2.out.ever (HGr.out _ hBW2) q (id : Nat) (len : Nat) HC.out.n10 HC.out.lt HFN.out)
      go_upto_region 10 with fail
      rw [← hW2, ← hgW]
      have g0 := HWB.out.cell 0
      have g1 := HWB.out.cell 1
      have g2 := HWB.out.cell 2
      simp at g0 g1 g2
      clear hW2 hgW hBW2 c0 c1 c2 HPB HB
      obtain ⟨ev, hev⟩ : ∃ e, e = everB n fl q := ⟨_, rfl⟩
      rw [← hev] at HEV
      have HEVE := Lib.hid hev
      clear hev
      cases ev with
      | false =>
        go_wp2_with fail
        refine HEV.out.mono ?_; rintro e w4 ⟨rfl, b4⟩
        have HPB4 := Lib.hid (HPB2.out.kept b4)
        have HB4 : Hid (Below B0 w1 w4) := HB2.out.trans (b4.mono (by have := HB0r.out; have := HBW2.out.size; omega))
        have HPS4 := Lib.hid (HPS.out.skip HXE.out HEVE.out.symm)
        clear b4 HEV g0 g1 g2
        go_wp2_with fail
        go_roundw
        case rel => exact ⟨k + 1, fnd, wts, H, S, sa, sc, hlt, rfl, rfl, by rw [HLS.out], by go_num, HPS4, by rw [HLS.out]; exact HPB4, HB4⟩
        case measure => simp [RowKit.intOf]; omega
      | true =>
        have HQ : Hid (q ≤ n) := everB_le (by rw [← HEVE.out]; decide)
        go_upto_region 11 with fail
        refine HEV.out.mono ?_; rintro e w4 ⟨rfl, b4⟩
        have HPB4 := Lib.hid (HPB2.out.kept b4)
        have HB4 : Hid (Below B0 w1 w4) := HB2.out.trans (b4.mono (by have := HB0r.out; have := HBW2.out.size; omega))
        have HWB4 := Lib.hid (HWB.out.kept b4)
        have HBr4 : Hid (Below wr.heap.size wr w4) := below_next b4 HBW2.out
        clear b4 HEV g0 g1 g2 HPB2 HB2 HWB HBW2
        have g0 := HWB4.out.cell 0
        have g1 := HWB4.out.cell 1
        have g2 := HWB4.out.cell 2
        simp at g0 g1 g2
        have HWY := Lib.hid (HPB4.out.way (HGr.out _ HBr4.out) fnd q now len (id : Nat) HC.out.n10 HQ.out HC.out.lt HFN.out HHE.out HH3.out hnow hl2)
        obtain ⟨o, ho⟩ : ∃ o, o = placeB n fl H fnd q now len := ⟨_, rfl⟩
        rw [← ho] at HWY
        have HO := Lib.hid ho
        clear ho
        have hbnd := bndK_300 hk300
        cases o with
        | some p =>
          obtain ⟨t, s⟩ := p
          have HPS5 := Lib.hid (HPS.out.take HXE.out HEVE.out.symm HO.out.symm hnow hl1 hl2)
          have hT := (HPS.out.new HQ.out HO.out.symm hnow hl1 hl2).2
          obtain ⟨E, hE⟩ : ∃ x, x = t + len := ⟨_, rfl⟩
          have hEi : (t : Int) + (len : Int) = (E : Int) := by omega
          have hE52 : E ≤ 4504699139014656 := by omega
          have HE := Lib.hid hE
          clear hT hE hbnd
          go_wp2_with fail
          rw [call_way, Oper.upon_enter]
          refine HWY.out.mono ?_; rintro e w5 ⟨x, r, rfl, ⟨rfl, rfl⟩, b5⟩
          obtain ⟨gT, hgT⟩ : ∃ g, g = w5.heap.size := ⟨_, rfl⟩
          obtain ⟨WZ, hWZ⟩ : ∃ W, W = w5.alloc (.cells #[.int .u32 (id : Nat), .int .i64 (s : Nat), .int .i64 (q : Nat), .int .i64 (t : Nat)] 55) := ⟨_, rfl⟩
          have hbz : Below w5.heap.size w5 WZ := by rw [hWZ]; exact (Below.refl _ _).alloc (Nat.le_refl _) _
          have hb4z : Below w4.heap.size w4 WZ := below_next hbz b5
          have HTZ : Hid (Blk WZ gT #[.int .u32 (id : Nat), .int .i64 (s : Nat), .int .i64 (q : Nat), .int .i64 (t : Nat)] 55) := by unfold Hid; rw [hWZ, hgT]; exact Blk.new _ _ _
          have HPBZ := Lib.hid (HPB4.out.kept hb4z)
          have HWZ := Lib.hid (HWB4.out.kept hb4z)
          have hsz4 := HBr4.out.size
          have HBZ : Hid (Below B0 w1 WZ) := HB4.out.trans (hb4z.mono (by have := HB0r.out; omega))
          have HBSZ : Hid (B0 ≤ WZ.heap.size) := by unfold Hid; have := HB0r.out; have := hb4z.size; omega
          have HGT : Hid (wr.heap.size ≤ gT) := by unfold Hid; have := b5.size; omega
          unfold slV
          dsimp only
          clear b5 HWY HPB4 HB4 HWB4 HBr4 g0 g1 g2 hsz4
          go_upto_region 12 with fail
          rw [← hWZ, ← hgT]
          clear hWZ hgT hbz hb4z
          have HOZ : Hid (WZ.ownsRow B0 55 4 (.slice sa LS sc) LS (slF S)) := by have h := HPBZ.out.sl; dsimp only [SlOwn] at h; rw [HLS.out] at h; exact h
          have k0 := HTZ.out.cell 0
          have k1 := HTZ.out.cell 1
          have k2 := HTZ.out.cell 2
          have k3 := HTZ.out.cell 3
          simp at k0 k1 k2 k3
          have hnw := ne_own HOLT.out (Nat.le_of_eq HGW.out.symm)
          have hnt := ne_own HOLT.out HGT.out
          go_upto_region 17 with (first | (at_builtin; refine wpList_app rfl _ _ 46 rfl B0 55 i0 _ 4 32 Try.underlying46 hi hz0 hz1 hz2 rfl (by decide) _ LS (slF S) rfl (HOZ.out.alloc _) _ 1 (slE (id, s, q, t, len)) rfl (src_sl (x := (id, s, q, t, len)) (Blk.new _ _ _)) (slE_one _) (by unfold maxLen; omega) (by omega) (by have := HBSZ.out; simp; omega) ?_; intro v8 w8 hown8 hgrow8 hat8; have HPB8 := Lib.hid (PB.app (x := (id, s, q, t, len)) (HPBZ.out.kept ((Below.refl _ _).alloc (Nat.le_refl _) _)) (by rw [HLS.out]; exact hown8) hgrow8 hat8); have HW8 := Lib.hid (blk_grown (HWZ.out.old _) hgrow8 hnw); have HT8 := Lib.hid (blk_grown (HTZ.out.old _) hgrow8 hnt); have HB8 := Lib.hid ((HBZ.out.alloc HBSZ.out _).grown hgrow8 (by have := HBSZ.out; simp; omega) (fun j hj => (own_ge HOZ.out hj).1)); clear hown8 hgrow8 hat8))
          clear k0 k1 k2 k3 hnw hnt
          have k0 := HW8.out.cell 2
          have k1 := HT8.out.cell 1
          have k2 := HT8.out.cell 2
          have k3 := HT8.out.cell 3
          simp at k0 k1 k2 k3
          have HOLD := Lib.hid (HPB8.out.hold (s, q, t, E) HHL.out)
          dsimp only at HOLD
          go_wp2_with fail
          refine HOLD.out.mono ?_; rintro e w9 ⟨rfl, hpb9, hb9⟩
          have HB9 : Hid (Below B0 w1 w9) := HB8.out.trans hb9
          obtain ⟨a9, c9, h9⟩ := own_slice hpb9.sl
          obtain ⟨L9, hL9⟩ : ∃ x, x = (S ++ [(id, s, q, t, len)]).length := ⟨_, rfl⟩
          rw [← hL9] at h9
          subst h9
          have HPB9 := Lib.hid hpb9
          have HL9 := Lib.hid hL9
          clear hpb9 hb9 hL9 k0 k1 k2 k3
          go_wp2_with fail
          go_roundw
          case rel => exact ⟨k + 1, fnd, wts, (s, q, t, t + len) :: H, S ++ [(id, s, q, t, len)], a9, c9, hlt, rfl, rfl, by rw [HL9.out], by go_num, HPS5, by (have h := HPB9.out; rw [HE.out, HL9.out] at h; exact h), HB9⟩
          case measure => simp [RowKit.intOf]; omega
        | none =>
          cases wts with
          | true =>
            have HPS5 := Lib.hid (HPS.out.stay HXE.out HEVE.out.symm HO.out.symm rfl)
            clear hbnd
            go_wp2_with fail
            rw [call_way, Oper.upon_enter]
            refine HWY.out.mono ?_; rintro e w5 ⟨⟨x1, x2, x3, x4⟩, r, rfl, rfl, b5⟩
            obtain ⟨WZ, hWZ⟩ : ∃ W, W = w5.alloc (.cells #[.int .u32 x1, .int .i64 x2, .int .i64 x3, .int .i64 x4] 55) := ⟨_, rfl⟩
            have hbz : Below w5.heap.size w5 WZ := by rw [hWZ]; exact (Below.refl _ _).alloc (Nat.le_refl _) _
            have hb4z : Below w4.heap.size w4 WZ := below_next hbz b5
            have HPBZ := Lib.hid (HPB4.out.kept hb4z)
            have hsz4 := HBr4.out.size
            have HBZ : Hid (Below B0 w1 WZ) := HB4.out.trans (hb4z.mono (by have := HB0r.out; omega))
            unfold slV
            dsimp only
            clear b5 HWY HPB4 HB4 HWB4 HBr4 g0 g1 g2 hsz4
            go_upto_region 12 with fail
            rw [← hWZ]
            clear hWZ hbz hb4z
            go_wp2_with fail
            go_roundw
            case rel => exact ⟨k + 1, fnd, true, H, S, sa, sc, hlt, rfl, rfl, by rw [HLS.out], by go_num, HPS5, by rw [HLS.out]; exact HPBZ, HBZ⟩
            case measure => simp [RowKit.intOf]; omega
          | false =>
            go_wp2_with fail
            rw [call_way, Oper.upon_enter]
            refine HWY.out.mono ?_; rintro e w5 ⟨⟨x1, x2, x3, x4⟩, r, rfl, rfl, b5⟩
            obtain ⟨gT, hgT⟩ : ∃ g, g = w5.heap.size := ⟨_, rfl⟩
            obtain ⟨W6, hW6⟩ : ∃ W, W = w5.alloc (.cells #[.int .u32 x1, .int .i64 x2, .int .i64 x3, .int .i64 x4] 55) := ⟨_, rfl⟩
            have hb6 : Below w5.heap.size w5 W6 := by rw [hW6]; exact (Below.refl _ _).alloc (Nat.le_refl _) _
            have HB56 := Lib.hid hb6
            have HT6 : Hid (Blk W6 gT #[.int .u32 x1, .int .i64 x2, .int .i64 x3, .int .i64 x4] 55) := by unfold Hid; rw [hW6, hgT]; exact Blk.new _ _ _
            have HPB5 := Lib.hid (HPB4.out.kept b5)
            have HWB5 := Lib.hid (HWB4.out.kept b5)
            have HBr5 : Hid (Below wr.heap.size wr w5) := below_next b5 HBr4.out
            have hsz4 := HBr4.out.size
            have HB5 : Hid (Below B0 w1 w5) := HB4.out.trans (b5.mono (by have := HB0r.out; omega))
            have HGT5 : Hid (gT = w5.heap.size) := hgT
            have HP6 := HP1.out.below ((HB5.out.trans (hb6.mono (by have := HB0r.out; have := HBr5.out.size; omega))).mono (Nat.le_of_eq HB01.out.symm)) HP1.out.lt
            have p1 := HP6.cell 1
            have p2 := HP6.cell 2
            have g0 := (HWB5.out.kept hb6).cell 0
            have g1 := (HWB5.out.kept hb6).cell 1
            have g2 := (HWB5.out.kept hb6).cell 2
            simp at p1 p2 g0 g1 g2
            have HWY6 := Lib.hid ((HPB5.out.kept hb6).way (HGr.out _ (below_next hb6 HBr5.out)) wt q now len (id : Nat) HC.out.n10 HQ.out HC.out.lt HFN.out HHE.out HH3.out hnow hl2)
            unfold slV
            dsimp only
            clear b5 HWY HPB4 HB4 HWB4 HBr4 hsz4 HP6
            go_upto_region 12 with fail
            rw [← hW6, ← hgT]
            clear hW6 hgT hb6
            obtain ⟨o2, ho2⟩ : ∃ o, o = placeB n fl H wt q now len := ⟨_, rfl⟩
            rw [← ho2] at HWY6
            have HO2 := Lib.hid ho2
            clear ho2
            cases o2 with
            | some p =>
              obtain ⟨t, s⟩ := p
              have HPS5 := Lib.hid (HPS.out.turn HXE.out HEVE.out.symm HO.out.symm rfl HO2.out.symm hnow hl1 hl2)
              have hT := (HPS.out.new HQ.out HO2.out.symm hnow hl1 hl2).2
              obtain ⟨E, hE⟩ : ∃ x, x = t + len := ⟨_, rfl⟩
              have hEi : (t : Int) + (len : Int) = (E : Int) := by omega
              have hE52 : E ≤ 4504699139014656 := by omega
              have HE := Lib.hid hE
              clear hT hE hbnd
              go_wp2_with fail
              rw [call_way, Oper.upon_enter]
              refine HWY6.out.mono ?_; rintro e w7 ⟨x, r, rfl, ⟨rfl, rfl⟩, b7⟩
              have HT7 := HT6.out.kept b7
              have k0 := HT7.cell 0
              have k1 := HT7.cell 1
              have k2 := HT7.cell 2
              have k3 := HT7.cell 3
              have f0 := HT7.free 0
              have f1 := HT7.free 1
              have f2 := HT7.free 2
              have f3 := HT7.free 3
              simp at k0 k1 k2 k3
              obtain ⟨WZ, eZ, htZ, hbZ⟩ := end4c HT7 (below_next b7 HB56.out) (Nat.le_of_eq HGT5.out.symm) (.int .u32 (id : Nat)) (.int .i64 (s : Nat)) (.int .i64 (q : Nat)) (.int .i64 (t : Nat))
              have EZ := Lib.hid eZ
              have HTZ := Lib.hid htZ
              have HPBZ := Lib.hid (HPB5.out.kept hbZ)
              have HWZ := Lib.hid (HWB5.out.kept hbZ)
              have HBZ : Hid (Below B0 w1 WZ) := HB5.out.trans (hbZ.mono (by have := HB0r.out; have := HBr5.out.size; omega))
              have HBSZ : Hid (B0 ≤ WZ.heap.size) := by unfold Hid; have := HB0r.out; have := HBr5.out.size; have := hbZ.size; omega
              have HGT : Hid (wr.heap.size ≤ gT) := by unfold Hid; have := HBr5.out.size; have := HGT5.out; omega
              unfold slV
              dsimp only
              clear b7 HWY6 HPB5 HB5 HWB5 HBr5 g0 g1 g2 p1 p2 eZ htZ hbZ HT7 HT6 HB56 HGT5
              go_upto_region 15 with fail
              rw [EZ.out]
              clear EZ k0 k1 k2 k3 f0 f1 f2 f3
              have HOZ : Hid (WZ.ownsRow B0 55 4 (.slice sa LS sc) LS (slF S)) := by have h := HPBZ.out.sl; dsimp only [SlOwn] at h; rw [HLS.out] at h; exact h
              have k0 := HTZ.out.cell 0
              have k1 := HTZ.out.cell 1
              have k2 := HTZ.out.cell 2
              have k3 := HTZ.out.cell 3
              simp at k0 k1 k2 k3
              have hnw := ne_own HOLT.out (Nat.le_of_eq HGW.out.symm)
              have hnt := ne_own HOLT.out HGT.out
              go_upto_region 17 with (first | (at_builtin; refine wpList_app rfl _ _ 46 rfl B0 55 i0 _ 4 32 Try.underlying46 hi hz0 hz1 hz2 rfl (by decide) _ LS (slF S) rfl (HOZ.out.alloc _) _ 1 (slE (id, s, q, t, len)) rfl (src_sl (x := (id, s, q, t, len)) (Blk.new _ _ _)) (slE_one _) (by unfold maxLen; omega) (by omega) (by have := HBSZ.out; simp; omega) ?_; intro v8 w8 hown8 hgrow8 hat8; have HPB8 := Lib.hid (PB.app (x := (id, s, q, t, len)) (HPBZ.out.kept ((Below.refl _ _).alloc (Nat.le_refl _) _)) (by rw [HLS.out]; exact hown8) hgrow8 hat8); have HW8 := Lib.hid (blk_grown (HWZ.out.old _) hgrow8 hnw); have HT8 := Lib.hid (blk_grown (HTZ.out.old _) hgrow8 hnt); have HB8 := Lib.hid ((HBZ.out.alloc HBSZ.out _).grown hgrow8 (by have := HBSZ.out; simp; omega) (fun j hj => (own_ge HOZ.out hj).1)); clear hown8 hgrow8 hat8))
              clear k0 k1 k2 k3 hnw hnt
              have k0 := HW8.out.cell 2
              have k1 := HT8.out.cell 1
              have k2 := HT8.out.cell 2
              have k3 := HT8.out.cell 3
              simp at k0 k1 k2 k3
              have HOLD := Lib.hid (HPB8.out.hold (s, q, t, E) HHL.out)
              dsimp only at HOLD
              go_wp2_with fail
              refine HOLD.out.mono ?_; rintro e w9 ⟨rfl, hpb9, hb9⟩
              have HB9 : Hid (Below B0 w1 w9) := HB8.out.trans hb9
              obtain ⟨a9, c9, h9⟩ := own_slice hpb9.sl
              obtain ⟨L9, hL9⟩ : ∃ x, x = (S ++ [(id, s, q, t, len)]).length := ⟨_, rfl⟩
              rw [← hL9] at h9
              subst h9
              have HPB9 := Lib.hid hpb9
              have HL9 := Lib.hid hL9
              clear hpb9 hb9 hL9 k0 k1 k2 k3
              go_wp2_with fail
              go_roundw
              case rel => exact ⟨k + 1, af, true, (s, q, t, t + len) :: H, S ++ [(id, s, q, t, len)], a9, c9, hlt, rfl, rfl, by rw [HL9.out], by go_num, HPS5, by (have h := HPB9.out; rw [HE.out, HL9.out] at h; exact h), HB9⟩
              case measure => simp [RowKit.intOf]; omega
            | none =>
              have HPS5 := Lib.hid (HPS.out.pass HXE.out HEVE.out.symm HO.out.symm rfl HO2.out.symm)
              clear hbnd
              go_wp2_with fail
              rw [call_way, Oper.upon_enter]
              refine HWY6.out.mono ?_; rintro e w7 ⟨⟨y1, y2, y3, y4⟩, r, rfl, rfl, b7⟩
              have HT7 := HT6.out.kept b7
              have k0 := HT7.cell 0
              have k1 := HT7.cell 1
              have k2 := HT7.cell 2
              have k3 := HT7.cell 3
              have f0 := HT7.free 0
              have f1 := HT7.free 1
              have f2 := HT7.free 2
              have f3 := HT7.free 3
              simp at k0 k1 k2 k3
              obtain ⟨WZ, eZ, htZ, hbZ⟩ := end4c HT7 (below_next b7 HB56.out) (Nat.le_of_eq HGT5.out.symm) (.int .u32 y1) (.int .i64 y2) (.int .i64 y3) (.int .i64 y4)
              have EZ := Lib.hid eZ
              have HPBZ := Lib.hid (HPB5.out.kept hbZ)
              have HBZ : Hid (Below B0 w1 WZ) := HB5.out.trans (hbZ.mono (by have := HB0r.out; have := HBr5.out.size; omega))
              unfold slV
              dsimp only
              clear b7 HWY6 HPB5 HB5 HWB5 HBr5 g0 g1 g2 p1 p2 eZ htZ hbZ HT7 HT6 HB56 HGT5
              go_upto_region 15 with fail
              rw [EZ.out]
              clear EZ k0 k1 k2 k3 f0 f1 f2 f3
              go_wp2_with fail
              go_roundw
              case rel => exact ⟨k + 1, af, true, H, S, sa, sc, hlt, rfl, rfl, by rw [HLS.out], by go_num, HPS5, by rw [HLS.out]; exact HPBZ, HBZ⟩
              case measure => simp [RowKit.intOf]; omega
    · have hd : decide (k < LW) = false := decide_eq_false hlt
      have hki : ¬ (k : Int) < (LW : Int) := by omega
      have HDN := Lib.hid (HPS.out.done (by have := HLW.out; omega))
      have HO := Lib.hid (own_low HPB.out.sl HZ.out)
      go_wp2_with fail
      go_ret2
      refine ⟨_, rfl, ?_, HWr.out⟩
      rw [HDN.out]
      exact HO.out
end

section
open Go Go.RowKit Go.Lib Go.Sort
/-- What a plan answers: a code, and slots. -/
def PlanTo (base : Nat) (er : Int) (S : List SlT) (w : World) (e : Ending) (w' : World) : Prop := ∃ v, e = .returned (.tuple #[v, .int .i64 er]) ∧ SlOwn w' base v S ∧ Below w.heap.size w w'
set_option maxRecDepth 100000 in
set_option maxHeartbeats 4000000 in
theorem plan_no (vf vh vw pv : Value) (N now : Int) (FL : List Int) (HL : List HeI) (WL : List WaI) (w : World) (hf : GRow w vf FL) (hh : HRow w vh HL) (hw : WRow w vw WL) (hfl : FL.length ≤ maxLen) (hhl : HL.length ≤ maxLen) (hwl : WL.length ≤ maxLen) (hno : ¬ Ask N FL HL WL now) (f0 wt af : Nat) :
    Calls Try.prog 42 #[.agg #[.int .i64 N, vf, vh], vw, .int .i64 now, poV f0 wt af] w fun e w' => PlanTo w.heap.size 2 [] w e w' := by
  have CK : Hid (∀ w1, Below w.heap.size w w1 → Calls Try.prog 58 #[.agg #[.int .i64 N, vf, vh], vw, .int .i64 now] w1 fun e w' => e = .returned (.int .i64 2) ∧ Below w1.heap.size w1 w') := fun w1 h1 => by
    refine (ask_any N now vf vh vw FL HL WL w1 (hf.kept h1) (hh.kept h1) (hw.kept h1) hfl hhl hwl).mono ?_
    rintro e w' ⟨er, rfl, ⟨rfl, h⟩ | ⟨rfl, _⟩, hb⟩
    · exact absurd h hno
    · exact ⟨rfl, hb⟩
  obtain ⟨fa, fc, rfl⟩ := hf.slice
  obtain ⟨ha, hc, rfl⟩ := hh.slice
  obtain ⟨wa, wc, rfl⟩ := hw.slice
  generalize FL.length = LF at *
  generalize HL.length = LH at *
  generalize WL.length = LW at *
  obtain ⟨W, hW⟩ : ∃ W, W = (w.alloc (.cells #[.int .i64 N, .slice fa LF fc, .slice ha LH hc] 25)).alloc (.cells #[fvM f0, fvM wt, fvM af] 80) := ⟨_, rfl⟩
  obtain ⟨gS, hgS⟩ : ∃ g, g = w.heap.size := ⟨_, rfl⟩
  have HBW : Hid (Below w.heap.size w W) := by unfold Hid; rw [hW]; exact ((Below.refl _ _).alloc (Nat.le_refl _) _).alloc (by simp) _
  have HS : Hid (Blk W gS #[.int .i64 N, .slice fa LF fc, .slice ha LH hc] 25) := by unfold Hid; rw [hW, hgS]; exact (Blk.new w _ _).old _
  have s0 := HS.out.cell 0
  have s1 := HS.out.cell 1
  have s2 := HS.out.cell 2
  simp at s0 s1 s2
  clear hf hh hw hfl hhl hwl hno
  go_enter Try.func42, Try.ntmps42
  go_upto_region 1 with fail
  rw [← hgS, ← hW]
  clear hgS hW
  go_wp2_with fail
  refine (CK.out _ HBW.out).mono ?_; rintro e w1 ⟨rfl, b1⟩
  have HB1 := below_next b1 HBW.out
  clear b1 CK s0 s1 s2 HS
  go_wp2_with fail
  go_ret2
  exact ⟨_, rfl, World.ownsRow_nil _ _ _ _, HB1⟩
set_option maxRecDepth 100000 in
set_option maxHeartbeats 2000000 in
theorem fifo_of (vf vh vw : Value) (N now er : Int) (S : List SlT) (w : World) (h1 : vf.oneCell' = true) (h2 : vh.oneCell' = true)
    (hp : ∀ w', Below w.heap.size w w' → Calls Try.prog 42 #[.agg #[.int .i64 N, vf, vh], vw, .int .i64 now, poV 1 0 0] w' fun e w'' => PlanTo w'.heap.size er S w' e w'') :
    Calls Try.prog 26 #[.agg #[.int .i64 N, vf, vh], vw, .int .i64 now] w fun e w' => PlanTo w.heap.size er S w e w' := by
  obtain ⟨W, hW⟩ : ∃ W, W = w.alloc (.cells #[.int .i64 N, vf, vh] 25) := ⟨_, rfl⟩
  obtain ⟨gS, hgS⟩ : ∃ g, g = w.heap.size := ⟨_, rfl⟩
  have HBW : Hid (Below w.heap.size w W) := by unfold Hid; rw [hW]; exact (Below.refl _ _).alloc (Nat.le_refl _) _
  have HS : Hid (Blk W gS #[.int .i64 N, vf, vh] 25) := by unfold Hid; rw [hW, hgS]; exact Blk.new w _ _
  have s0 := HS.out.cell 0
  have s1 := HS.out.cell 1
  have s2 := HS.out.cell 2
  simp at s0 s1 s2
  have HP := Lib.hid (hp W HBW.out)
  rw [show poV 1 0 0 = .agg #[.func (.func 43) #[] #[], .func (.func 45) #[] #[], .func (.func 45) #[] #[]] from rfl] at HP
  clear hp
  go_enter Try.func26, Try.ntmps26
  go_upto_region 1 with fail
  rw [← hgS, ← hW]
  clear hgS hW
  go_wp2_with fail
  refine HP.out.mono ?_; rintro e w1 ⟨v, rfl, ho, b1⟩
  have HO := Lib.hid (own_low ho HBW.out.size)
  have HB1 := Lib.hid (below_next b1 HBW.out)
  clear ho b1 HP s0 s1 s2
  go_wp2_with fail
  go_ret2
  exact ⟨_, rfl, HO.out, HB1.out⟩
set_option maxRecDepth 100000 in
set_option maxHeartbeats 2000000 in
theorem easy_of (vf vh vw : Value) (N now er : Int) (S : List SlT) (w : World) (h1 : vf.oneCell' = true) (h2 : vh.oneCell' = true)
    (hp : ∀ w', Below w.heap.size w w' → Calls Try.prog 42 #[.agg #[.int .i64 N, vf, vh], vw, .int .i64 now, poV 1 2 1] w' fun e w'' => PlanTo w'.heap.size er S w' e w'') :
    Calls Try.prog 24 #[.agg #[.int .i64 N, vf, vh], vw, .int .i64 now] w fun e w' => PlanTo w.heap.size er S w e w' := by
  obtain ⟨W, hW⟩ : ∃ W, W = w.alloc (.cells #[.int .i64 N, vf, vh] 25) := ⟨_, rfl⟩
  obtain ⟨gS, hgS⟩ : ∃ g, g = w.heap.size := ⟨_, rfl⟩
  have HBW : Hid (Below w.heap.size w W) := by unfold Hid; rw [hW]; exact (Below.refl _ _).alloc (Nat.le_refl _) _
  have HS : Hid (Blk W gS #[.int .i64 N, vf, vh] 25) := by unfold Hid; rw [hW, hgS]; exact Blk.new w _ _
  have s0 := HS.out.cell 0
  have s1 := HS.out.cell 1
  have s2 := HS.out.cell 2
  simp at s0 s1 s2
  have HP := Lib.hid (hp W HBW.out)
  rw [show poV 1 2 1 = .agg #[.func (.func 43) #[] #[], .func (.func 44) #[] #[], .func (.func 43) #[] #[]] from rfl] at HP
  clear hp
  go_enter Try.func24, Try.ntmps24
  go_upto_region 1 with fail
  rw [← hgS, ← hW]
  clear hgS hW
  go_wp2_with fail
  refine HP.out.mono ?_; rintro e w1 ⟨v, rfl, ho, b1⟩
  have HO := Lib.hid (own_low ho HBW.out.size)
  have HB1 := Lib.hid (below_next b1 HBW.out)
  clear ho b1 HP s0 s1 s2
  go_wp2_with fail
  go_ret2
  exact ⟨_, rfl, HO.out, HB1.out⟩
set_option maxRecDepth 100000 in
set_option maxHeartbeats 2000000 in
theorem cons_of (vf vh vw : Value) (N now er : Int) (S : List SlT) (w : World) (h1 : vf.oneCell' = true) (h2 : vh.oneCell' = true)
    (hp : ∀ w', Below w.heap.size w w' → Calls Try.prog 42 #[.agg #[.int .i64 N, vf, vh], vw, .int .i64 now, poV 2 0 0] w' fun e w'' => PlanTo w'.heap.size er S w' e w'') :
    Calls Try.prog 27 #[.agg #[.int .i64 N, vf, vh], vw, .int .i64 now] w fun e w' => PlanTo w.heap.size er S w e w' := by
  obtain ⟨W, hW⟩ : ∃ W, W = w.alloc (.cells #[.int .i64 N, vf, vh] 25) := ⟨_, rfl⟩
  obtain ⟨gS, hgS⟩ : ∃ g, g = w.heap.size := ⟨_, rfl⟩
  have HBW : Hid (Below w.heap.size w W) := by unfold Hid; rw [hW]; exact (Below.refl _ _).alloc (Nat.le_refl _) _
  have HS : Hid (Blk W gS #[.int .i64 N, vf, vh] 25) := by unfold Hid; rw [hW, hgS]; exact Blk.new w _ _
  have s0 := HS.out.cell 0
  have s1 := HS.out.cell 1
  have s2 := HS.out.cell 2
  simp at s0 s1 s2
  have HP := Lib.hid (hp W HBW.out)
  rw [show poV 2 0 0 = .agg #[.func (.func 44) #[] #[], .func (.func 45) #[] #[], .func (.func 45) #[] #[]] from rfl] at HP
  clear hp
  go_enter Try.func27, Try.ntmps27
  go_upto_region 1 with fail
  rw [← hgS, ← hW]
  clear hgS hW
  go_wp2_with fail
  refine HP.out.mono ?_; rintro e w1 ⟨v, rfl, ho, b1⟩
  have HO := Lib.hid (own_low ho HBW.out.size)
  have HB1 := Lib.hid (below_next b1 HBW.out)
  clear ho b1 HP s0 s1 s2
  go_wp2_with fail
  go_ret2
  exact ⟨_, rfl, HO.out, HB1.out⟩
end

section
open Go Go.RowKit Go.Lib Go.Sort
/-- A scene and jobs in the memory, all of which may be. -/
structure PlanIn (w : World) (vf vh vw : Value) (n : Nat) (fl : List Nat) (hl : List HeT) (WS : List (Nat × Nat × Nat)) (now : Nat) : Prop where
  r : SRow w vf vh ⟨n, fl, hl⟩
  w : WRow w vw (WS.map waN)
  c : ScOk ⟨n, fl, hl⟩
  l : WS.length ≤ 300
  t : now ≤ 1099511627776
  j : ∀ x ∈ WS, 1 ≤ x.2.2 ∧ x.2.2 ≤ 1099511627776
theorem PlanIn.kept {w w' : World} {vf vh vw : Value} {n : Nat} {fl : List Nat} {hl : List HeT} {WS : List (Nat × Nat × Nat)} {now : Nat} (h : PlanIn w vf vh vw n fl hl WS now) (hb : Below w.heap.size w w') : PlanIn w' vf vh vw n fl hl WS now :=
  ⟨h.r.kept hb, h.w.kept hb, h.c, h.l, h.t, h.j⟩
theorem PlanIn.ask {w : World} {vf vh vw : Value} {n : Nat} {fl : List Nat} {hl : List HeT} {WS : List (Nat × Nat × Nat)} {now : Nat} (h : PlanIn w vf vh vw n fl hl WS now) : Ask (n : Int) (nsI fl) (hl.map heZ) (WS.map waN) (now : Int) := by
  refine ⟨⟨⟨n, fl, hl⟩, h.c, rfl, rfl, rfl⟩, ⟨by omega, by have := h.t; omega⟩, by rw [List.length_map]; exact h.l, fun x hx => ?_⟩
  obtain ⟨y, hy, rfl⟩ := List.mem_map.1 hx
  have := h.j y hy
  unfold waN waOk
  dsimp only
  omega
theorem one_of_grow {w : World} {v : Value} {l : List Int} (h : GRow w v l) : v.oneCell' = true := by obtain ⟨a, c, rfl⟩ := h.slice; rfl
theorem one_of_row {w : World} {v : Value} {α : Type} {s : Nat} {enc : α → List Value} {l : List α} (h : RowG s enc w v l) : v.oneCell' = true := by obtain ⟨a, c, rfl⟩ := h.slice; rfl
/-- What may be planned is of natural numbers. -/
theorem ask_nat {N now : Int} {FL : List Int} {HL : List HeI} {WL : List WaI} (h : Ask N FL HL WL now) (h0 : ∀ x ∈ WL, 0 ≤ x.1) :
    ∃ (n nw : Nat) (fl : List Nat) (hl : List HeT) (WS : List (Nat × Nat × Nat)), N = (n : Int) ∧ now = (nw : Int) ∧ FL = nsI fl ∧ HL = hl.map heZ ∧ WL = WS.map waN ∧ ScOk ⟨n, fl, hl⟩ ∧ WS.length ≤ 300 ∧ nw ≤ 1099511627776 ∧ ∀ x ∈ WS, 1 ≤ x.2.2 ∧ x.2.2 ≤ 1099511627776 := by
  obtain ⟨⟨c, hc, rfl, rfl, rfl⟩, ⟨h1, h2⟩, h3, h4⟩ := h
  obtain ⟨n, fl, hl⟩ := c
  have e : WL = (WL.map fun x => (x.1.toNat, x.2.1.toNat, x.2.2.toNat)).map waN := by
    rw [List.map_map]
    refine (List.map_id' WL).symm.trans (List.map_congr_left fun x hx => ?_)
    have a := h4 x hx
    have b := h0 x hx
    obtain ⟨x1, x2, x3⟩ := x
    unfold waOk at a
    dsimp only at a b
    unfold waN
    simp only [Function.comp]
    rw [Int.toNat_of_nonneg b, Int.toNat_of_nonneg a.1, Int.toNat_of_nonneg (by omega)]
  refine ⟨n, now.toNat, fl, hl, _, rfl, (Int.toNat_of_nonneg h1).symm, rfl, rfl, e, hc, by rw [List.length_map]; exact h3, by omega, fun x hx => ?_⟩
  obtain ⟨y, hy, rfl⟩ := List.mem_map.1 hx
  have a := h4 y hy
  unfold waOk at a
  dsimp only
  omega
theorem PlanIn.fifo {w : World} {vf vh vw : Value} {n : Nat} {fl : List Nat} {hl : List HeT} {WS : List (Nat × Nat × Nat)} {now : Nat} (h : PlanIn w vf vh vw n fl hl WS now) :
    Calls Try.prog 26 #[.agg #[.int .i64 (n : Nat), vf, vh], vw, .int .i64 (now : Nat)] w fun e w' => PlanTo w.heap.size 0 (planL n fl now 0 0 WS hl 1 false) w e w' :=
  fifo_of vf vh vw (n : Int) (now : Int) 0 _ w (one_of_grow h.r.f) (one_of_row h.r.h) fun w' hb => plan_any vf vh vw n fl hl WS now 1 0 0 w' (h.r.kept hb) (h.w.kept hb) h.ask h.c h.l h.t h.j
theorem fifo_no {N now : Int} {vf vh vw : Value} {FL : List Int} {HL : List HeI} {WL : List WaI} {w : World} (hf : GRow w vf FL) (hh : HRow w vh HL) (hw : WRow w vw WL) (hfl : FL.length ≤ maxLen) (hhl : HL.length ≤ maxLen) (hwl : WL.length ≤ maxLen) (hno : ¬ Ask N FL HL WL now) :
    Calls Try.prog 26 #[.agg #[.int .i64 N, vf, vh], vw, .int .i64 now] w fun e w' => PlanTo w.heap.size 2 [] w e w' :=
  fifo_of vf vh vw N now 2 [] w (one_of_grow hf) (one_of_row hh) fun w' hb => plan_no vf vh vw (.bool false) N now FL HL WL w' (hf.kept hb) (hh.kept hb) (hw.kept hb) hfl hhl hwl hno 1 0 0
theorem PlanIn.easy {w : World} {vf vh vw : Value} {n : Nat} {fl : List Nat} {hl : List HeT} {WS : List (Nat × Nat × Nat)} {now : Nat} (h : PlanIn w vf vh vw n fl hl WS now) :
    Calls Try.prog 24 #[.agg #[.int .i64 (n : Nat), vf, vh], vw, .int .i64 (now : Nat)] w fun e w' => PlanTo w.heap.size 0 (planL n fl now 2 1 WS hl 1 false) w e w' :=
  easy_of vf vh vw (n : Int) (now : Int) 0 _ w (one_of_grow h.r.f) (one_of_row h.r.h) fun w' hb => plan_any vf vh vw n fl hl WS now 1 2 1 w' (h.r.kept hb) (h.w.kept hb) h.ask h.c h.l h.t h.j
theorem easy_no {N now : Int} {vf vh vw : Value} {FL : List Int} {HL : List HeI} {WL : List WaI} {w : World} (hf : GRow w vf FL) (hh : HRow w vh HL) (hw : WRow w vw WL) (hfl : FL.length ≤ maxLen) (hhl : HL.length ≤ maxLen) (hwl : WL.length ≤ maxLen) (hno : ¬ Ask N FL HL WL now) :
    Calls Try.prog 24 #[.agg #[.int .i64 N, vf, vh], vw, .int .i64 now] w fun e w' => PlanTo w.heap.size 2 [] w e w' :=
  easy_of vf vh vw N now 2 [] w (one_of_grow hf) (one_of_row hh) fun w' hb => plan_no vf vh vw (.bool false) N now FL HL WL w' (hf.kept hb) (hh.kept hb) (hw.kept hb) hfl hhl hwl hno 1 2 1
theorem PlanIn.cons {w : World} {vf vh vw : Value} {n : Nat} {fl : List Nat} {hl : List HeT} {WS : List (Nat × Nat × Nat)} {now : Nat} (h : PlanIn w vf vh vw n fl hl WS now) :
    Calls Try.prog 27 #[.agg #[.int .i64 (n : Nat), vf, vh], vw, .int .i64 (now : Nat)] w fun e w' => PlanTo w.heap.size 0 (planL n fl now 0 0 WS hl 2 false) w e w' :=
  cons_of vf vh vw (n : Int) (now : Int) 0 _ w (one_of_grow h.r.f) (one_of_row h.r.h) fun w' hb => plan_any vf vh vw n fl hl WS now 2 0 0 w' (h.r.kept hb) (h.w.kept hb) h.ask h.c h.l h.t h.j
theorem cons_no {N now : Int} {vf vh vw : Value} {FL : List Int} {HL : List HeI} {WL : List WaI} {w : World} (hf : GRow w vf FL) (hh : HRow w vh HL) (hw : WRow w vw WL) (hfl : FL.length ≤ maxLen) (hhl : HL.length ≤ maxLen) (hwl : WL.length ≤ maxLen) (hno : ¬ Ask N FL HL WL now) :
    Calls Try.prog 27 #[.agg #[.int .i64 N, vf, vh], vw, .int .i64 now] w fun e w' => PlanTo w.heap.size 2 [] w e w' :=
  cons_of vf vh vw N now 2 [] w (one_of_grow hf) (one_of_row hh) fun w' hb => plan_no vf vh vw (.bool false) N now FL HL WL w' (hf.kept hb) (hh.kept hb) (hw.kept hb) hfl hhl hwl hno 2 0 0
end

end Go.Proofs.Ytioeblljabohbaa
