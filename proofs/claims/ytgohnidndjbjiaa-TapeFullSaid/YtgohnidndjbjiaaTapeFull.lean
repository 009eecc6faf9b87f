/-
  TapeFull: a record without room is refused, and the tape goes on; what else stands on the spool is cut off, whatever the bytes: so the law returns true for every input.
-/
import Derived.Test.YtgohnidndjbjiaaTapeP
import Derived.Test.YtgohnidndjbjiaaOpen
import Derived.Test.YtgohnidndjbjiaaRows
import Derived.Test.YtgohnidndjbjiaaArgs2
namespace Go.Proofs.Ytgohnidndjbjiaa.tapeFull
open Go.ChangeShapes Go.WideShapes Go.ChangeAt Go.RowKit
set_option linter.unusedVariables false

theorem own : ownKnob Try.prog.godebug = none := by kernel_rfl

open Go.Lib
theorem long (A B : Option Addr) (n c m d : Nat) (w : World) (h : 300 < n ∨ 300 < m) :
    Calls Try.prog 6 #[.slice A n c, .slice B m d] w fun e w' => e = .returned (.bool true) ∧ Below w.heap.size w w' := by
  have HK := Lib.hid (known19_any w)
  by_cases h1 : 300 < n
  · have t : decide ((n : Int) > 300) = true := decide_eq_true (by omega)
    clear h
    go_enter Try.func6, Try.ntmps6
    go_wp2_with fail
    refine HK.out.mono ?_; rintro e w1 ⟨rfl, b1⟩
    go_wp2_with fail
    go_returns
    exact ⟨rfl, b1⟩
  · have h2 : 300 < m := by omega
    have t : decide ((n : Int) > 300) = false := decide_eq_false (by omega)
    have t2 : decide ((m : Int) > 300) = true := decide_eq_true (by omega)
    clear h
    go_enter Try.func6, Try.ntmps6
    go_wp2_with fail
    refine HK.out.mono ?_; rintro e w1 ⟨rfl, b1⟩
    go_wp2_with fail
    go_returns
    exact ⟨rfl, b1⟩
/-- What the tape is, behind each step. -/
def ts0 (ro : Int) : TS := ⟨⟨ro, [], 0, -1, false⟩, [], false⟩
def ts1 (ro : Int) (r : List UInt8) : TS := ⟨⟨ro, putB r, r.length + 7, -1, false⟩, [r], false⟩
def ts2 (ro : Int) (r q : List UInt8) (s : Nat) : TS := ⟨⟨ro, putB r ++ putB q, s, -1, false⟩, [r, q], false⟩
theorem f1 (ro : Int) (r : List UInt8) (h8 : r.length ≤ 8000) (hr : ((r.length + 7 : Nat) : Int) ≤ ro) : addT (ts0 ro) r = (ts1 ro r, 0) := by
  unfold ts0 ts1
  rw [addT_ok _ _ rfl h8 rfl (by show (-1 : Int) < 0; decide) (by dsimp only [List.length_nil]; omega)]
  simp
theorem f2 (ro : Int) (r q : List UInt8) (su : Nat) (h8 : q.length ≤ 8000) (hr : ((r.length + 7 + (q.length + 7) : Nat) : Int) ≤ ro) :
    addT ⟨⟨ro, putB r, su, -1, false⟩, [r], false⟩ q = (ts2 ro r q (r.length + 7 + (q.length + 7)), 0) := by
  unfold ts2
  rw [addT_ok _ _ rfl h8 rfl (by show (-1 : Int) < 0; decide) (by dsimp only; rw [putB_len]; omega)]
  dsimp only
  rw [putB_len]; rfl
theorem f3 (ro : Int) (r q p : List UInt8) (su : Nat) (h8 : p.length ≤ 8000) (hr : ro < ((r.length + 7 + (q.length + 7) + (p.length + 7) : Nat) : Int)) : addT (ts2 ro r q su) p = (ts2 ro r q su, 5) := by
  unfold ts2
  exact addT_full _ _ rfl h8 rfl (by dsimp only; rw [List.length_append, putB_len, putB_len]; omega)
theorem flat1 (r : List UInt8) : flatB [r] = putB r := by simp [flatB]
theorem f6 (r more : List UInt8) (su : Nat) (h8 : r.length ≤ 8000) : ∃ su', rowsB (putB r ++ [0] ++ more) = [r] ∧ openS ⟨2000, putB r ++ [0] ++ more, su, -1, false⟩ = (⟨2000, putB r, su', -1, false⟩, 0) := by
  obtain ⟨h1, u, h2, _⟩ := openS_flat 2000 [r] (0 :: more) su (-1) (fun x hx => by rw [List.mem_singleton.1 hx]; exact h8) (isB_zero more) (by decide)
  have e : flatB [r] ++ 0 :: more = putB r ++ [0] ++ more := by rw [flat1, List.append_assoc]; rfl
  rw [e] at h1 h2
  rw [flat1] at h2
  exact ⟨u, h1, h2⟩
theorem f8 (r : List UInt8) (h : r.length ≤ 300) : addS (ts1 2000 r).s [0] = (⟨2000, putB r ++ [0], r.length + 7, -1, false⟩, 0) := by
  unfold ts1
  exact addS_ok ⟨2000, putB r, r.length + 7, -1, false⟩ [0] rfl (by dsimp only; rw [putB_len]; simp only [List.length_cons, List.length_nil]; omega) (by show (-1 : Int) < 0; decide)
theorem f9 (r more : List UInt8) (h : r.length ≤ 300) (h2 : more.length ≤ 300) : addS ⟨2000, putB r ++ [0], r.length + 7, -1, false⟩ more = (⟨2000, putB r ++ [0] ++ more, r.length + 7, -1, false⟩, 0) :=
  addS_ok ⟨2000, putB r ++ [0], r.length + 7, -1, false⟩ more rfl (by dsimp only; rw [List.length_append, putB_len]; simp only [List.length_cons, List.length_nil]; omega) (by show (-1 : Int) < 0; decide)
set_option maxRecDepth 100000 in
set_option maxHeartbeats 1000000 in
theorem short (va vb : Value) (r more : List UInt8) (w : World) (hr : Rd w (· < w.heap.size) va (bts r)) (hm : Rd w (· < w.heap.size) vb (bts more)) (lr : r.length ≤ 300) (lm : more.length ≤ 300) :
    Calls Try.prog 6 #[va, vb] w fun e w' => e = .returned (.bool true) ∧ Below w.heap.size w w' := by
  have HR := Lib.hid hr
  have HM := Lib.hid hm
  obtain ⟨A, c, rfl, _⟩ := rd_form hr
  obtain ⟨B, d, rfl, _⟩ := rd_form hm
  have q0 : ∀ (w : World) (C : Array Value) (n c : Nat), (convert 37 37 (.slice (some ⟨w.heap.size, 0, none⟩) n c)).run Try.prog (w.alloc (.cells C 5)) = .ok (.slice (some ⟨w.heap.size, 0, none⟩) n c) (w.alloc (.cells C 5 (C.size, C.size + 1))) := fun w C n c => run_convert_bytes_const w 37 5 C n c Try.underlying37 Try.underlying5
  have t1 : decide ((r.length : Int) > 300) = false := decide_eq_false (by omega)
  have t2 : decide ((more.length : Int) > 300) = false := decide_eq_false (by omega)
  obtain ⟨ro, hro⟩ : ∃ ro : Nat, (ro : Int) = 2 * ((r.length : Int) + 7) + 6 := ⟨2 * (r.length + 7) + 6, by omega⟩
  have HN : Hid (Calls Try.prog 11 #[.int .i64 (2 * ((r.length : Int) + 7) + 6)] w fun e w' => e = .returned (.tuple #[.pointer (some ⟨w.heap.size, 0, none⟩), .int .i64 0]) ∧
      Sp w' w.heap.size (fun b => b = w.heap.size) w.heap.size (ts0 ro).s ∧ Below w.heap.size w w') := by
    rw [← hro]
    exact (new_any ro w w.heap.size (by omega) (by omega) (Nat.le_refl _)).mono fun e w' ⟨h1, h2, h3, _⟩ => ⟨h1, h2, h3⟩
  have G1 := Lib.hid (f1 ro r (by omega) (by omega))
  have G2 := Lib.hid (f2 ro r r (r.length + 7) (by omega) (by omega))
  have G3 := Lib.hid (f3 ro r r r (r.length + 7 + (r.length + 7)) (by omega) (by omega))
  have G4 := Lib.hid (f3 ro r r [] (r.length + 7 + (r.length + 7)) (by decide) (by simp only [List.length_nil]; omega))
  have G5 := Lib.hid (f1 2000 r (by omega) (by omega))
  have O0 : Hid (openS (ts0 ro).s = ((ts0 ro).s, 0)) := by unfold ts0 openS Hid; dsimp only; rw [k0.1]; rfl
  have LR := Lib.hid lr
  have LM := Lib.hid lm
  obtain ⟨su6, r6, g6⟩ := f6 r more (r.length + 7) (by omega)
  have R6 := Lib.hid r6
  have G6 := Lib.hid g6
  have G7 : Hid (addT ⟨⟨2000, putB r, su6, -1, false⟩, [r], false⟩ [122] = (ts2 2000 r [122] (r.length + 7 + ([122] : List UInt8).length + 7), 0)) := f2 2000 r [122] su6 (by decide) (by simp only [List.length_cons, List.length_nil]; omega)
  have G8 := Lib.hid (f8 r (by omega))
  have G9 := Lib.hid (f9 r more (by omega) (by omega))
  have bro : (ro : Int) ≤ 1000000 := by omega
  clear hr hm r6 g6 hro
  go_enter Try.func6, Try.ntmps6
  go_wp2_with fail
  refine HN.out.mono ?_; rintro e w1 ⟨rfl, hs1, hb1⟩
  have S1 := Lib.hid hs1
  have B1 := Lib.hid hb1
  clear hs1 hb1
  go_wp2_with fail
  refine (open_at O0.out S1.out (Nat.zero_le _) k0.1).mono ?_; rintro e w2 ⟨tb, N2, rfl, hk2, _, hf2⟩
  have K2 := Lib.hid hk2
  have B2 := Lib.hid (B1.out.trans (S1.out.below hf2))
  clear hk2 hf2
  go_wp2_with fail
  refine (tAdd_at G1.out K2.out (HR.out.kept B2.out) (fun b hb h => by have := (K2.out.lt b h).1; omega)).mono ?_; rintro e w3 ⟨rfl, h3⟩
  obtain ⟨N3, hk3, hb3⟩ := TkTo.get K2.out h3
  have K3 := Lib.hid hk3
  have B3 := Lib.hid (B2.out.trans hb3)
  clear h3 hk3 hb3
  go_wp2_with fail
  refine (tAdd_at G2.out K3.out (HR.out.kept B3.out) (fun b hb h => by have := (K3.out.lt b h).1; omega)).mono ?_; rintro e w4 ⟨rfl, h4⟩
  obtain ⟨N4, hk4, hb4⟩ := TkTo.get K3.out h4
  have K4 := Lib.hid hk4
  have B4 := Lib.hid (B3.out.trans hb4)
  clear h4 hk4 hb4
  go_wp2_with fail
  refine (tAdd_at G3.out K4.out (HR.out.kept B4.out) (fun b hb h => by have := (K4.out.lt b h).1; omega)).mono ?_; rintro e w5 ⟨rfl, h5⟩
  obtain ⟨N5, hk5, hb5⟩ := TkTo.get K4.out h5
  have K5 := Lib.hid hk5
  have B5 := Lib.hid (B4.out.trans hb5)
  clear h5 hk5 hb5
  go_wp2_with fail
  refine (tapeLen_any K5.out).mono ?_; rintro e w5 ⟨rfl, rfl⟩
  go_wp2_with fail
  refine (tAdd_at G4.out K5.out (show Rd w5 (fun _ => False) (.slice none 0 0) (bts []) from Rd.nil w5 _) (fun b hb h => hb)).mono ?_; rintro e w6 ⟨rfl, h6⟩
  obtain ⟨N6, hk6, hb6⟩ := TkTo.get K5.out h6
  have B6 := Lib.hid (B5.out.trans hb6)
  clear h6 hk6 hb6
  have HN2 : Hid (Calls Try.prog 11 #[.int .i64 2000] w6 fun e w' => e = .returned (.tuple #[.pointer (some ⟨w6.heap.size, 0, none⟩), .int .i64 0]) ∧
      Sp w' w.heap.size (fun b => b = w6.heap.size) w6.heap.size (ts0 2000).s ∧ Below w6.heap.size w6 w') :=
    (new_any 2000 w6 w.heap.size (by decide) (by decide) B6.out.size).mono fun e w' ⟨h1, h2, h3, _⟩ => ⟨h1, h2, h3⟩
  go_wp2_with fail
  refine HN2.out.mono ?_; rintro e w7 ⟨rfl, hs7, hb7⟩
  have S7 := Lib.hid hs7
  have B7 := Lib.hid (B6.out.trans (hb7.mono B6.out.size))
  clear hs7 hb7
  generalize w6.heap.size = ub at *
  have O1 : Hid (openS (ts0 2000).s = ((ts0 2000).s, 0)) := by unfold ts0 openS Hid; dsimp only; rw [k0.1]; rfl
  go_wp2_with fail
  refine (open_at O1.out S7.out (Nat.zero_le _) k0.1).mono ?_; rintro e w8 ⟨vb, N8, rfl, hk8, _, hf8⟩
  have K8 := Lib.hid hk8
  have B8 := Lib.hid (B7.out.trans (S7.out.below hf8))
  clear hk8 hf8
  go_wp2_with fail
  refine (tAdd_at G5.out K8.out (HR.out.kept B8.out) (fun b hb h => by have := (K8.out.lt b h).1; omega)).mono ?_; rintro e w9 ⟨rfl, h9⟩
  obtain ⟨N9, hk9, hb9⟩ := TkTo.get K8.out h9
  have B9 := Lib.hid (B8.out.trans hb9)
  obtain ⟨M9, hs9, _⟩ := hk9.sp
  have S9 := Lib.hid hs9
  clear h9 hk9 hb9 hs9
  go_wp2_with fail
  refine (len_at (n := (r.length + 7 : Nat)) (by show (((putB r).length : Nat) : Int) = _; rw [putB_len]) S9.out).mono ?_; rintro e w9 ⟨rfl, rfl⟩
  go_wp2_with fail
  refine (add_at G8.out (S9.out.alloc _) (rd_lit w9 [0] 1 rfl (by decide) _ rfl _) (fun b hb h => by have := S9.out.lt b h; omega)).mono ?_; rintro e w10 ⟨rfl, N10, _, hs10, hf10⟩
  have S10 := Lib.hid hs10
  have B10 := Lib.hid ((B9.out.alloc B9.out.size _).trans ((S9.out.alloc _).below hf10))
  clear hs10 hf10
  go_wp2_with fail
  refine (add_at G9.out S10.out (HM.out.kept B10.out) (fun b hb h => by have := (S10.out.2.1 b h).1; omega)).mono ?_; rintro e w11 ⟨rfl, N11, _, hs11, hf11⟩
  have S11 := Lib.hid hs11
  have B11 := Lib.hid (B10.out.trans (S10.out.below hf11))
  clear hs11 hf11
  go_wp2_with fail
  refine (open_at G6.out S11.out (by show (putB r ++ [0] ++ more).length ≤ _; rw [List.length_append, List.length_append, putB_len]; have := LR.out; have := LM.out; simp only [List.length_cons, List.length_nil]; omega) R6.out).mono ?_; rintro e w12 ⟨tw, N12, rfl, hk12, _, hf12⟩
  have K12 := Lib.hid hk12
  have B12 := Lib.hid (B11.out.trans (S11.out.below hf12))
  obtain ⟨M12, hs12, _⟩ := hk12.sp
  have S12 := Lib.hid hs12
  clear hk12 hf12 hs12
  go_wp2_with fail
  refine (tapeLen_any K12.out).mono ?_; rintro e w12 ⟨rfl, rfl⟩
  go_wp2_with fail
  refine (len_at (n := (r.length + 7 : Nat)) (by show (((putB r).length : Nat) : Int) = _; rw [putB_len]) S12.out).mono ?_; rintro e w12 ⟨rfl, rfl⟩
  go_wp2_with fail
  refine (tAdd_at G7.out (K12.out.alloc _) (rd_lit w12 [122] 1 rfl (by decide) _ rfl _) (fun b hb h => by have := (K12.out.lt b h).2; omega)).mono ?_; rintro e w13 ⟨rfl, h13⟩
  obtain ⟨N13, hk13, hb13⟩ := TkTo.get (K12.out.alloc _) h13
  have K13 := Lib.hid hk13
  have B13 := Lib.hid ((B12.out.alloc B12.out.size _).trans hb13)
  clear h13 hk13 hb13
  go_wp2_with fail
  refine (tapeLen_any K13.out).mono ?_; rintro e w13 ⟨rfl, rfl⟩
  go_wp2_with fail
  refine (known19_any _).mono ?_; rintro e w14 ⟨rfl, hb14⟩
  have B14 := Lib.hid (B13.out.trans (hb14.mono B13.out.size))
  clear hb14
  go_wp2_with fail
  go_returns
  exact ⟨rfl, B14.out⟩
theorem walk (va : Value) (r : List UInt8) (vb : Value) (more : List UInt8) (w : World) (hr : Rd w (· < w.heap.size) va (bts r)) (hm : Rd w (· < w.heap.size) vb (bts more)) :
    Calls Try.prog 6 #[va, vb] w fun e w' => e = .returned (.bool true) ∧ Below w.heap.size w w' := by
  by_cases h : 300 < r.length ∨ 300 < more.length
  · obtain ⟨A, c, rfl, _⟩ := rd_form hr
    obtain ⟨B, d, rfl, _⟩ := rd_form hm
    exact long A B _ c _ d w h
  · exact short va vb r more w hr hm (by omega) (by omega)


set_option maxRecDepth 100000 in
theorem lifted (os : Os) (started : os.Started) (H : Type) (enc : TypeId × Value → H) :
    ReturnsInHanded {} Try.checked os 6 .any (Rows.tapeFullSpec.pre6 enc Try.prog Try.f6 Rows.tapeFullRow.domain false) (Rows.tapeFullSpec.post enc Try.prog Try.f6 false true false false) := by
  refine returnsInHanded_of_change (C := Try.checked) own started (by kernel_rfl) Try.func6
    (ChangeSpec.witness6 (enc := enc) (C := Try.checked) false ⟨#[], #[.slice none 0 0, .slice none 0 0], []⟩ 8 (by kernel_rfl) (by kernel_rfl) (by kernel_rfl) (by kernel_rfl)) ?_
  intro W base args ds gs before hval0 hW _ _
  have hval : ∀ (j : Nat) t v, Try.f6.params[j]? = some t → args[j]? = some v → Value.okWide Try.prog W .any base t v := hval0
  have hW' := hW
  obtain ⟨p, q, hA0, hV, rfl, hfz, hnd⟩ := hW
  have hA : DataW.TrodAll enc Try.prog W 0 (fun _ => true) true Try.f6.params.toList args.toList ds p := hA0
  rw [Try.params6] at hA hval
  obtain ⟨v0, vs0, d0, ds0, p0, q0, hargs, rfl, rfl, h0, r0⟩ := trodAll_cons hA
  obtain ⟨v1, vs1, d1, ds1, p1, q1, rfl, rfl, rfl, h1, r1⟩ := trodAll_cons r0
  obtain ⟨rfl, rfl, rfl⟩ := trodAll_nil r1
  obtain rfl : args = #[v0, v1] := by cases args; simp_all
  obtain ⟨r, w0⟩ := open_reader (reader_bytes Try.underlying37 Try.underlying5 (by kernel_rfl)) h0 (okWide_slice Try.underlying37 (hval 0 37 v0 rfl rfl))
  obtain ⟨more, w1⟩ := open_reader (reader_bytes Try.underlying37 Try.underlying5 (by kernel_rfl)) h1 (okWide_slice Try.underlying37 (hval 1 37 v1 rfl rfl))
  clear hA0 hval0
  refine (walk v0 r v1 more W w0 w1).mono fun e W' ⟨he, hb⟩ => ?_
  subst he
  exact ⟨_, rfl, law_post (by kernel_rfl) (by kernel_rfl) rfl Try.underlying4 rfl hW' rfl hb⟩

theorem over : Rows.tapeFullRow.holds Try.pinned (OpenSpec.ofChange Rows.tapeFullSpec) :=
  OpenClaim.holds_of_wide 6 Try.f6 rfl rfl rfl rfl rfl rfl rfl ⟨rfl, rfl, rfl, rfl, rfl⟩ rfl rfl rfl rfl rfl (by kernel_rfl) Try.func6 (by kernel_rfl)
    (of_decide_eq_true (by kernel_rfl)) (by unfold Func.isWrapper; first | (rw [if_pos (by decide +kernel)]; kernel_rfl) | (rw [if_neg (by decide +kernel)]; exact ⟨rfl, rfl⟩))
    (fun os started H enc _ => lifted os started H enc)

theorem proved : Rows.TapeFullSaid :=
  over
#print axioms proved
end Go.Proofs.Ytgohnidndjbjiaa.tapeFull
