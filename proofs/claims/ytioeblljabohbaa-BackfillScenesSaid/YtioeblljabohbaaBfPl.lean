/-
  A plan, plainly; the three ways to find a place.
-/
import Derived.Test.YtioeblljabohbaaBfSe
import Derived.Test.YtioeblljabohbaaBfZz
namespace Go.Proofs.Ytioeblljabohbaa
open Go Go.RowKit Go.Lib Go.Sort
set_option linter.unusedVariables false

/-- A place for a job: 1 now, 2 when it is first free, else none. -/
def placeB (n : Nat) (fl : List Nat) (H : List HeT) (md q now len : Nat) : Option (Nat × Nat) :=
  if md = 1 then (firstB ⟨n, fl, H⟩ q now (now + len)).map fun s => (now, s)
  else if md = 2 then earlyC ⟨n, fl, H⟩ q now len
  else none
/-- A slot: id, start, order, tick, and its job's length. -/
abbrev SlT := Nat × Nat × Nat × Nat × Nat
/-- The jobs' slots; H: what is held; find: the way to find a place; after, once one waits: the way for it, and for those behind it. -/
def planL (n : Nat) (fl : List Nat) (now wait after : Nat) : List (Nat × Nat × Nat) → List HeT → Nat → Bool → List SlT
  | [], _, _, _ => []
  | (id, q, len) :: ws, H, find, waits =>
    if everB n fl q = false then planL n fl now wait after ws H find waits
    else match placeB n fl H find q now len with
      | some (t, s) => (id, s, q, t, len) :: planL n fl now wait after ws ((s, q, t, t + len) :: H) find waits
      | none =>
        if waits = true then planL n fl now wait after ws H find waits
        else match placeB n fl H wait q now len with
          | some (t, s) => (id, s, q, t, len) :: planL n fl now wait after ws ((s, q, t, t + len) :: H) after true
          | none => planL n fl now wait after ws H after true
/-- The function of a way. -/
def wayF (md : Nat) : FuncId := if md = 1 then 43 else if md = 2 then 44 else 45
def slV (x : Int × Int × Int × Int) : Value := .agg #[.int .u32 x.1, .int .i64 x.2.1, .int .i64 x.2.2.1, .int .i64 x.2.2.2]
/-- What a way answers. -/
def WayTo (o : Option (Nat × Nat)) (id q : Int) (x : Int × Int × Int × Int) (r : Bool) : Prop := match o with | some (t, s) => r = true ∧ x = (id, (s : Int), q, (t : Int)) | none => r = false
theorem way_any (md bd B0 n q now len : Nat) (id : Int) (fl : List Nat) (F T H : List HeT) (w : World) (hb : BdI w bd B0 n fl F T) (hn : n ≤ 10) (hq : q ≤ n) (hfl : ∀ x ∈ fl, x < 2 ^ n) (hfn : fl.length ≤ 1024) (hF : ∀ h ∈ H, heOk2 n h) (hFl : H.length ≤ 1023)
    (hpF : F.Perm H) (hpT : T.Perm H) (sF : SortedF F) (sT : SortedT T) (hnow : now ≤ 1099511627776) (hlen : len ≤ 1099511627776) :
    Calls Try.prog (wayF md) #[.pointer (some ⟨bd, 0, none⟩), .agg #[.int .u32 id, .int .i64 (q : Nat), .int .i64 (len : Nat)], .int .i64 (now : Nat)] w fun e w' => ∃ x r, e = .returned (.tuple #[slV x, .bool r]) ∧ WayTo (placeB n fl H md q now len) id q x r ∧ Below w.heap.size w w' := by
  have hl := hpF.length_eq
  have hFF : ∀ h ∈ F, heOk2 n h := fun h hh => hF h (hpF.mem_iff.1 hh)
  unfold wayF placeB
  by_cases h1 : md = 1
  · rw [if_pos h1, if_pos h1]
    refine (startNow_any bd id q len now (atV ⟨n, fl, F⟩ q now (now + len)).1 (atV ⟨n, fl, F⟩ q now (now + len)).2 w hnow hlen fun w' h => ?_).mono ?_
    · exact at_any bd B0 n q now (now + len) fl F T w' (hb.kept h) hn hq hfl hfn hFF (by omega) (by omega) (by omega)
    · rintro e w' ⟨rfl, hbl⟩
      refine ⟨(id, (atV ⟨n, fl, F⟩ q now (now + len)).1, (q : Int), (now : Int)), _, rfl, ?_, hbl⟩
      unfold atV
      rw [firstB_perm hpF]
      cases firstB ⟨n, fl, H⟩ q now (now + len) with
      | none => rfl
      | some s => exact ⟨rfl, rfl⟩
  · rw [if_neg h1, if_neg h1]
    by_cases h2 : md = 2
    · rw [if_pos h2, if_pos h2]
      refine (promise_any bd id q len now (earlyV ⟨n, fl, F⟩ q len (tks (endsB T) now)).1 (earlyV ⟨n, fl, F⟩ q len (tks (endsB T) now)).2.1 (earlyV ⟨n, fl, F⟩ q len (tks (endsB T) now)).2.2 w fun w' h => ?_).mono ?_
      · exact earliest_any bd B0 n q now len fl F T w' (hb.kept h) hn hq hfl hfn hFF (by omega) (hpT.trans hpF.symm) sF sT (by omega) (by omega)
      · rintro e w' ⟨rfl, hbl⟩
        refine ⟨(id, (earlyV ⟨n, fl, F⟩ q len (tks (endsB T) now)).2.1, (q : Int), (earlyV ⟨n, fl, F⟩ q len (tks (endsB T) now)).1), _, rfl, ?_, hbl⟩
        have e := earlyV_canon (c := ⟨n, fl, H⟩) hpF sT hpT q now len
        dsimp only at e
        rw [e]
        unfold earlyB
        cases earlyC ⟨n, fl, H⟩ q now len with
        | none => rfl
        | some x => exact ⟨rfl, rfl⟩
    · rw [if_neg h2, if_neg h2]
      refine (none_any _ id (q : Int) (len : Int) (now : Int) w).mono ?_
      rintro e w' ⟨rfl, hbl⟩
      exact ⟨(0, 0, 0, 0), false, rfl, rfl, hbl⟩
end Go.Proofs.Ytioeblljabohbaa
