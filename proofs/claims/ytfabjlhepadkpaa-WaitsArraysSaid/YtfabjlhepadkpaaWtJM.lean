/-
  gangerref14.there, Alone.
  gangerref14.Room.
  gangerref14.Say.
  gangerref14.List.
-/
import Derived.Test.YtfabjlhepadkpaaWtFI
import Derived.BigQuiet
import Derived.Test.YtfabjlhepadkpaaDeR
import Derived.Deep.AppendLies
namespace Go.Proofs.Ytfabjlhepadkpaa
set_option linter.unusedVariables false

section
open Go Go.RowKit Go.Lib
def thereJ (l : List Jb) (id : Nat) : Bool := (findJ l id).isSome
theorem thereJ_iff {l : List Jb} {id : Nat} : thereJ l id = true ↔ okJs l = true ∧ 1 ≤ id ∧ id ≤ l.length := by
  unfold thereJ findJ
  split
  · rename_i h
    have e : (l[id - 1]?).isSome = true ↔ id - 1 < l.length := by simp
    rw [e]
    constructor
    · intro h2; exact ⟨h.1, h.2, by omega⟩
    · rintro ⟨_, _, h3⟩; omega
  · rename_i h
    constructor
    · intro h2; cases h2
    · rintro ⟨h1, h2, _⟩; exact absurd ⟨h1, h2⟩ h
set_option maxRecDepth 100000 in
set_option maxHeartbeats 2000000 in
theorem rthere_any (v : Value) (l : List Jb) (id : Nat) (w : World) (h : JRw w v l) (hid : id < 4294967296) :
    Calls Try.prog 31 #[v, .int .u32 (id : Nat)] w fun e w' => e = .returned (.bool (thereJ l id)) ∧ w' = w := by
  have CK := Lib.hid (rcheck14_any v l w h)
  have hlen := h.len
  obtain ⟨a, c, rfl⟩ := h.row.slice
  obtain ⟨N, hN⟩ : ∃ N, N = l.length := ⟨_, rfl⟩
  rw [← hN] at CK hlen ⊢
  have HN := Lib.hid hN
  obtain ⟨r, hr⟩ : ∃ r, r = thereJ l id := ⟨_, rfl⟩
  rw [← hr]
  clear h
  have hr2 : r = true ↔ okJs l = true ∧ 1 ≤ id ∧ id ≤ N := by rw [hr, hN]; exact thereJ_iff
  have HR := Lib.hid hr2
  clear hr hN hr2
  cases hck : okJs l
  · have q1 : (chkJ l == 0) = false := by rw [notJs_chk hck]; rfl
    have HE : Hid (r = false) := by
      unfold Hid; cases hrr : r
      · rfl
      · have := (HR.out.1 hrr).1; rw [hck] at this; cases this
    generalize chkJ l = C0 at *
    go_enter Try.func31, Try.ntmps31
    go_wp2_with fail
    refine CK.out.mono ?_; rintro e w1 ⟨rfl, hw⟩
    replace hw := hw.symm; subst hw
    go_wp2_with fail
    go_ret
    exact ⟨by rw [HE.out]; rfl, rfl⟩
  · have q1 : (chkJ l == 0) = true := by rw [okJs_chk hck]; rfl
    generalize chkJ l = C0 at *
    by_cases h1 : 1 ≤ id
    · have d1 : decide ((id : Int) ≥ 1) = true := decide_eq_true (by omega)
      have d1' : decide (1 ≤ (id : Int)) = true := decide_eq_true (by omega)
      have d1'' : decide (1 ≤ id) = true := decide_eq_true h1
      have HE : Hid (r = decide ((id : Int) ≤ (N : Int))) := by
        unfold Hid; rw [Bool.eq_iff_iff, HR.out, decide_eq_true_eq]
        exact ⟨fun h => by omega, fun h => ⟨hck, h1, by omega⟩⟩
      go_enter Try.func31, Try.ntmps31
      go_wp2_with fail
      refine CK.out.mono ?_; rintro e w1 ⟨rfl, hw⟩
      replace hw := hw.symm; subst hw
      go_wp2_with fail
      go_ret
      exact ⟨by rw [HE.out]; simp, rfl⟩
    · have d1 : decide ((id : Int) ≥ 1) = false := decide_eq_false (by omega)
      have d1' : decide (1 ≤ (id : Int)) = false := decide_eq_false (by omega)
      have d1'' : decide (1 ≤ id) = false := decide_eq_false h1
      have HE : Hid (r = false) := by
        unfold Hid; cases hrr : r
        · rfl
        · exact absurd (HR.out.1 hrr).2.1 h1
      go_enter Try.func31, Try.ntmps31
      go_wp2_with fail
      refine CK.out.mono ?_; rintro e w1 ⟨rfl, hw⟩
      replace hw := hw.symm; subst hw
      go_wp2_with fail
      go_ret
      exact ⟨by rw [HE.out]; rfl, rfl⟩
/-- Does one stand in the way, as the document has it? -/
def busyR (id : Nat) (jn ja : ByteArray) (oid : Nat) (on oa : ByteArray) (h : Int) : Bool :=
  ((on.toList == jn.toList) && ((oa.toList == ja.toList) && !(oid == id))) && ((h == 3) || ((h == 4) || (decide (h < 3) && decide (oid < id))))
theorem busyR_eq {j o : Jb} (ho : howJ o.how ≠ 0) : busyR j.id j.name j.acct o.id o.name o.acct o.how = busyJ j o := by
  unfold busyR busyJ otherJ stirJ
  have hs : ((o.how == 3) || ((o.how == 4) || (decide (o.how < 3) && decide (o.id < j.id)))) = ((howJ o.how == 2) || ((howJ o.how == 1) && decide (o.id < j.id))) := by
    have h19 : 1 ≤ o.how ∧ o.how ≤ 9 := by
      unfold howJ at ho; repeat' split at ho
      all_goals omega
    have : o.how = 1 ∨ o.how = 2 ∨ o.how = 3 ∨ o.how = 4 ∨ o.how = 5 ∨ o.how = 6 ∨ o.how = 7 ∨ o.how = 8 ∨ o.how = 9 := by omega
    rcases this with e | e | e | e | e | e | e | e | e <;> rw [e] <;> simp [howJ]
  rw [hs]
  cases (o.id == j.id) <;> cases (o.name.toList == j.name.toList) <;> cases (o.acct.toList == j.acct.toList) <;> rfl
set_option maxRecDepth 100000 in
set_option maxHeartbeats 2000000 in
theorem rAlone_any (v : Value) (l : List Jb) (id : Nat) (w : World) (h : JRw w v l) (hid : id < 4294967296) :
    Calls Try.prog 17 #[v, .int .u32 (id : Nat)] w fun e w' => e = .returned (.bool (AloneJ l id)) ∧ Below w.heap.size w w' := by
  have TH := Lib.hid (rthere_any v l id w h hid)
  have HL := Lib.hid h
  have hlen := h.len
  obtain ⟨a, c, rfl⟩ := h.row.slice
  obtain ⟨N, hN⟩ : ∃ N, N = l.length := ⟨_, rfl⟩
  rw [← hN] at TH hlen ⊢
  have HN := Lib.hid hN
  clear h hN
  obtain ⟨r, hr⟩ : ∃ r, r = AloneJ l id := ⟨_, rfl⟩
  rw [← hr]
  unfold AloneJ at hr
  unfold thereJ at TH
  cases hf : findJ l id with
  | none =>
    rw [hf] at TH hr
    have HE := Lib.hid hr
    clear hr
    go_enter Try.func17, Try.ntmps17
    go_wp2_with fail
    refine TH.out.mono ?_; rintro e w1 ⟨rfl, hw⟩
    replace hw := hw.symm; subst hw
    go_wp2_with fail
    go_ret
    exact ⟨by rw [HE.out]; rfl, Below.refl _ _⟩
  | some j =>
    rw [hf] at TH hr
    have HR := Lib.hid hr
    obtain ⟨hok, hid1, hk0, hkj⟩ := findJ_mem hf
    obtain ⟨k, hk⟩ : ∃ k, k = id - 1 := ⟨_, rfl⟩
    have hkl : k < l.length := by rw [hk]; exact hk0
    have hkN : k < N := by rw [HN.out]; exact hkl
    have hjk : l[k] = j := by rw [← hkj]; congr 1
    have hjid : j.id = id := by rw [← hjk, (okJs_iff.1 hok k hkl).1]; omega
    have HW0 : Hid (∀ o ∈ l, howJ o.how ≠ 0) := fun o ho => by
      obtain ⟨i, hi, rfl⟩ := List.getElem_of_mem ho
      exact (okJs_iff.1 hok i hi).2
    have hk1 : IntKind.u32.wrap ((id : Int) - 1) = (k : Int) := by
      have : (id : Int) - 1 = (k : Int) := by omega
      rw [this]; exact Int.emod_eq_of_lt (by omega) (by show _ < (4294967296 : Int); omega)
    have hkN2 : (k : Int) < (N : Int) := by omega
    have hkd : decide ((k : Int) < (N : Int)) = true := decide_eq_true hkN2
    obtain ⟨bb0, off0, e, hrg⟩ := JRw.at HL.out (Below.refl _ _) hkl
    subst e
    rw [hjk] at hrg
    have hone : JbS j := by rw [← hjk]; exact HL.out.one (List.getElem_mem hkl)
    obtain ⟨X, hX⟩ : ∃ X, X = w.alloc (.cells (jbC j) 41) := ⟨_, rfl⟩
    obtain ⟨gj, hgj⟩ : ∃ g, g = w.heap.size := ⟨_, rfl⟩
    have hbX : Below w.heap.size w X := by rw [hX]; exact (Below.refl _ _).alloc (Nat.le_refl _) _
    have hbj : Blk X gj (jbC j) 41 := by rw [hX, hgj]; exact Blk.new w _ _
    have HBX := Lib.hid hbX
    have HBJ := Lib.hid hbj
    have HE : Hid ((∀ q (hq : q < l.length), busyJ j l[q] = false) → r = true) := fun hh => by
      rw [hr]; show aloneJ l j = true; unfold aloneJ
      have : l.any (busyJ j) = false := by
        rw [List.any_eq_false]; intro o ho
        obtain ⟨i, hi, rfl⟩ := List.getElem_of_mem ho
        rw [hh i hi]; simp
      rw [this]; rfl
    have HF : Hid (∀ q (hq : q < l.length), busyJ j l[q] = true → r = false) := fun q hq hh => by
      rw [hr]; show aloneJ l j = false; unfold aloneJ
      rw [List.any_eq_true.2 ⟨_, List.getElem_mem hq, hh⟩]; rfl
    have HJI := Lib.hid hjid
    clear hr hk hjk hk0 hkj hf hok hid1 hbX hjid HR
    go_enter Try.func17, Try.ntmps17
    go_wp2_with fail
    refine TH.out.mono ?_; rintro e w1 ⟨rfl, hw⟩
    replace hw := hw.symm; subst hw
    go_upto_region 4 with (first | (refine ld_jb rfl _ rfl _ _ rfl _ hrg ?_) | (refine st_jb rfl _ _ rfl _ _ rfl rfl j rfl rfl hone ?_))
    rw [← hX, ← hgj]
    have HGJ := Lib.hid hgj
    clear hX hgj hrg hbj
    go_wp2_with fail
    go_loopw [6] (fun iv wr => ∃ i : Nat, i ≤ N ∧ iv = .int .i64 (i : Nat) ∧ Hid (∀ q (hq : q < l.length), q < i → busyJ j l[q] = false) ∧ Hid (Below X.heap.size X wr)) (fun iv _ => N - (RowKit.intOf iv).toNat)
    case atStart => exact ⟨0, Nat.zero_le _, rfl, fun q _ h => by omega, Below.refl _ _⟩
    case round =>
      obtain ⟨i, hi, rfl, HO, HB⟩ := hrel
      have HBw := Lib.hid (below_next HB.out HBX.out)
      by_cases hlt : i < N
      · have d1 : decide ((i : Int) < (N : Int)) = true := decide_eq_true (by omega)
        have d1' : decide (i < N) = true := decide_eq_true hlt
        have hii : (i : Int) < (N : Int) := by omega
        have hik : i < l.length := by rw [← HN.out]; exact hlt
        obtain ⟨bb, off, e, hrg⟩ := JRw.at HL.out HBw.out hik
        injection e with e; injection e with e1 e2; subst e1; subst e2
        have hone2 := HL.out.one (List.getElem_mem hik)
        have HQ : Hid (busyJ j l[i] = false → ∀ q (hq : q < l.length), q < i + 1 → busyJ j l[q] = false) := fun hh q hq h2 => by
          by_cases e : q = i
          · subst e; exact hh
          · exact HO.out q hq (by omega)
        have HZ : Hid (busyJ j l[i] = true → r = false) := HF.out i hik
        have HH : Hid (busyR j.id j.name j.acct l[i].id l[i].name l[i].acct l[i].how = busyJ j l[i]) := busyR_eq (HW0.out _ (List.getElem_mem hik))
        obtain ⟨o, ho⟩ : ∃ o, o = l[i] := ⟨_, rfl⟩
        rw [← ho] at hrg hone2 HQ HZ HH
        clear ho HO
        obtain ⟨W, hW⟩ : ∃ W, W = wr.alloc (.cells (jbC o) 41) := ⟨_, rfl⟩
        obtain ⟨go_, hgo⟩ : ∃ g, g = wr.heap.size := ⟨_, rfl⟩
        have hbW : Below wr.heap.size wr W := by rw [hW]; exact (Below.refl _ _).alloc (Nat.le_refl _) _
        have hbn : Blk W go_ (jbC o) 41 := by rw [hW, hgo]; exact Blk.new _ _ _
        have HBW := Lib.hid (below_next hbW HB.out)
        have hbj := HBJ.out.kept HBW.out
        have y3 : W.cell? ⟨gj, 3, none⟩ = some (.string j.name) := blk_jb hbj 3
        have y4 : W.cell? ⟨gj, 4, none⟩ = some (.string j.acct) := blk_jb hbj 4
        have x0 : W.cell? ⟨go_, 0, none⟩ = some (.int .u32 (o.id : Nat)) := blk_jb hbn 0
        have x3 : W.cell? ⟨go_, 3, none⟩ = some (.string o.name) := blk_jb hbn 3
        have x4 : W.cell? ⟨go_, 4, none⟩ = some (.string o.acct) := blk_jb hbn 4
        have x19 : W.cell? ⟨go_, 19, none⟩ = some (.int .i64 o.how) := blk_jb hbn 19
        rw [HJI.out] at HH
        obtain ⟨β, hβ⟩ : ∃ β, β = busyJ j o := ⟨_, rfl⟩
        rw [← hβ] at HQ HZ HH
        obtain ⟨oi, hoi⟩ : ∃ x, x = o.id := ⟨_, rfl⟩
        obtain ⟨on, hon⟩ : ∃ x, x = o.name := ⟨_, rfl⟩
        obtain ⟨oa, hoa⟩ : ∃ x, x = o.acct := ⟨_, rfl⟩
        obtain ⟨oh, hoh⟩ : ∃ x, x = o.how := ⟨_, rfl⟩
        obtain ⟨jn, hjn⟩ : ∃ x, x = j.name := ⟨_, rfl⟩
        obtain ⟨ja, hja⟩ : ∃ x, x = j.acct := ⟨_, rfl⟩
        rw [← hoi, ← hon, ← hoa, ← hoh, ← hjn, ← hja] at HH
        rw [← hoi] at x0
        rw [← hon] at x3
        rw [← hoa] at x4
        rw [← hoh] at x19
        rw [← hjn] at y3
        rw [← hja] at y4
        clear hbW hbn hbj hβ hoi hon hoa hoh hjn hja
        go_upto_region 8 with (first | (refine ld_jb rfl _ rfl _ _ rfl _ hrg ?_) | (refine st_jb rfl _ _ rfl _ _ rfl rfl o rfl rfl hone2 ?_))
        rw [← hW, ← hgo]
        clear hW hgo hrg
        obtain ⟨a1, p1⟩ : ∃ b, (on.toList == jn.toList) = b := ⟨_, rfl⟩
        obtain ⟨a2, p2⟩ : ∃ b, (oa.toList == ja.toList) = b := ⟨_, rfl⟩
        obtain ⟨a3, p3⟩ : ∃ b, ((oi : Int) != (id : Int)) = b := ⟨_, rfl⟩
        obtain ⟨b1, p4⟩ : ∃ b, (oh == 3) = b := ⟨_, rfl⟩
        obtain ⟨b2, p5⟩ : ∃ b, (oh == 4) = b := ⟨_, rfl⟩
        obtain ⟨b3, p6⟩ : ∃ b, decide (oh < 3) = b := ⟨_, rfl⟩
        obtain ⟨b4, p7⟩ : ∃ b, decide ((oi : Int) < (id : Int)) = b := ⟨_, rfl⟩
        have p3' : (!(oi == id)) = a3 := by rw [← p3, Bool.eq_iff_iff]; simp <;> omega
        have p7' : decide (oi < id) = b4 := by rw [← p7, Bool.eq_iff_iff]; simp <;> omega
        have HB2 : Hid (((a1 && (a2 && a3)) && (b1 || (b2 || (b3 && b4)))) = β) := by
          unfold Hid; rw [← HH.out]; unfold busyR; rw [p1, p2, p3', p4, p5, p6, p7']
        clear HH
        cases a1 with
        | false =>
          have HV : Hid (β = false) := HB2.out.symm
          have HQ3 := Lib.hid (HQ.out HV.out)
          clear HB2 HQ HZ
          go_wp2_with fail
          go_roundw
          case rel => exact ⟨i + 1, hlt, by go_num, HQ3.out, HBW.out⟩
          case measure => simp [RowKit.intOf]; omega
        | true =>
          cases a2 with
          | false =>
            have HV : Hid (β = false) := HB2.out.symm
            have HQ3 := Lib.hid (HQ.out HV.out)
            clear HB2 HQ HZ
            go_wp2_with fail
            go_roundw
            case rel => exact ⟨i + 1, hlt, by go_num, HQ3.out, HBW.out⟩
            case measure => simp [RowKit.intOf]; omega
          | true =>
            cases a3 with
            | false =>
              have HV : Hid (β = false) := HB2.out.symm
              have HQ3 := Lib.hid (HQ.out HV.out)
              clear HB2 HQ HZ
              go_wp2_with fail
              go_roundw
              case rel => exact ⟨i + 1, hlt, by go_num, HQ3.out, HBW.out⟩
              case measure => simp [RowKit.intOf]; omega
            | true =>
              cases b1 with
              | false =>
                cases b2 with
                | false =>
                  cases b3 with
                  | false =>
                    have HV : Hid (β = false) := HB2.out.symm
                    have HQ3 := Lib.hid (HQ.out HV.out)
                    clear HB2 HQ HZ
                    go_wp2_with fail
                    go_roundw
                    case rel => exact ⟨i + 1, hlt, by go_num, HQ3.out, HBW.out⟩
                    case measure => simp [RowKit.intOf]; omega
                  | true =>
                    cases b4 with
                    | false =>
                      have HV : Hid (β = false) := HB2.out.symm
                      have HQ3 := Lib.hid (HQ.out HV.out)
                      clear HB2 HQ HZ
                      go_wp2_with fail
                      go_roundw
                      case rel => exact ⟨i + 1, hlt, by go_num, HQ3.out, HBW.out⟩
                      case measure => simp [RowKit.intOf]; omega
                    | true =>
                      have HV : Hid (β = true) := HB2.out.symm
                      have HRR : Hid (r = false) := HZ.out HV.out
                      clear HB2 HQ HZ
                      go_wp2_with fail
                      go_ret
                      exact ⟨by rw [HRR.out]; rfl, (below_next HBW.out HBX.out)⟩
                | true =>
                  have HV : Hid (β = true) := HB2.out.symm
                  have HRR : Hid (r = false) := HZ.out HV.out
                  clear HB2 HQ HZ
                  go_wp2_with fail
                  go_ret
                  exact ⟨by rw [HRR.out]; rfl, (below_next HBW.out HBX.out)⟩
              | true =>
                have HV : Hid (β = true) := HB2.out.symm
                have HRR : Hid (r = false) := HZ.out HV.out
                clear HB2 HQ HZ
                go_wp2_with fail
                go_ret
                exact ⟨by rw [HRR.out]; rfl, (below_next HBW.out HBX.out)⟩
      · have d1 : decide ((i : Int) < (N : Int)) = false := decide_eq_false (by omega)
        have d1' : decide (i < N) = false := decide_eq_false hlt
        have HRR : Hid (r = true) := HE.out fun q hq => HO.out q hq (by have := HN.out; omega)
        go_wp2_with fail
        go_ret
        exact ⟨by rw [HRR.out]; rfl, HBw.out⟩
end

section
open Go Go.RowKit Go.Lib
theorem runR_eq {o : Jb} (ho : howJ o.how ≠ 0) : ((o.how == 3) || (o.how == 4)) = (howJ o.how == 2) := by
  have h19 : 1 ≤ o.how ∧ o.how ≤ 9 := by
    unfold howJ at ho; repeat' split at ho
    all_goals omega
  have : o.how = 1 ∨ o.how = 2 ∨ o.how = 3 ∨ o.how = 4 ∨ o.how = 5 ∨ o.how = 6 ∨ o.how = 7 ∨ o.how = 8 ∨ o.how = 9 := by omega
  rcases this with e | e | e | e | e | e | e | e | e <;> rw [e] <;> simp [howJ]
set_option maxRecDepth 100000 in
set_option maxHeartbeats 2000000 in
theorem rRoom_any (v : Value) (l : List Jb) (id : Nat) (w : World) (h : JRw w v l) (hid : id < 4294967296) :
    Calls Try.prog 19 #[v, .int .u32 (id : Nat)] w fun e w' => e = .returned (.bool (RoomJ l id)) ∧ Below w.heap.size w w' := by
  have TH := Lib.hid (rthere_any v l id w h hid)
  have HL := Lib.hid h
  have hlen := h.len
  obtain ⟨a, c, rfl⟩ := h.row.slice
  obtain ⟨N, hN⟩ : ∃ N, N = l.length := ⟨_, rfl⟩
  rw [← hN] at TH hlen ⊢
  have HN := Lib.hid hN
  clear h hN
  obtain ⟨r, hr⟩ : ∃ r, r = RoomJ l id := ⟨_, rfl⟩
  rw [← hr]
  unfold RoomJ at hr
  unfold thereJ at TH
  cases hf : findJ l id with
  | none =>
    rw [hf] at TH hr
    have HE := Lib.hid hr
    clear hr
    go_enter Try.func19, Try.ntmps19
    go_wp2_with fail
    refine TH.out.mono ?_; rintro e w1 ⟨rfl, hw⟩
    replace hw := hw.symm; subst hw
    go_wp2_with fail
    go_ret
    exact ⟨by rw [HE.out]; rfl, Below.refl _ _⟩
  | some j =>
    rw [hf] at TH hr
    have HR : Hid (r = ((j.arr == 0) || ((j.most == 0) || decide (((l.countP (runJ j) : Nat) : Int) < j.most)))) := hr
    obtain ⟨hok, hid1, hk0, hkj⟩ := findJ_mem hf
    obtain ⟨k, hk⟩ : ∃ k, k = id - 1 := ⟨_, rfl⟩
    have hkl : k < l.length := by rw [hk]; exact hk0
    have hkN : k < N := by rw [HN.out]; exact hkl
    have hjk : l[k] = j := by rw [← hkj]; congr 1
    have HW0 : Hid (∀ o ∈ l, howJ o.how ≠ 0) := fun o ho => by
      obtain ⟨i, hi, rfl⟩ := List.getElem_of_mem ho
      exact (okJs_iff.1 hok i hi).2
    have hk1 : IntKind.u32.wrap ((id : Int) - 1) = (k : Int) := by
      have : (id : Int) - 1 = (k : Int) := by omega
      rw [this]; exact Int.emod_eq_of_lt (by omega) (by show _ < (4294967296 : Int); omega)
    have hkN2 : (k : Int) < (N : Int) := by omega
    have hkd : decide ((k : Int) < (N : Int)) = true := decide_eq_true hkN2
    obtain ⟨bb0, off0, e, hrg⟩ := JRw.at HL.out (Below.refl _ _) hkl
    subst e
    rw [hjk] at hrg
    have hone : JbS j := by rw [← hjk]; exact HL.out.one (List.getElem_mem hkl)
    obtain ⟨X, hX⟩ : ∃ X, X = w.alloc (.cells (jbC j) 41) := ⟨_, rfl⟩
    obtain ⟨gj, hgj⟩ : ∃ g, g = w.heap.size := ⟨_, rfl⟩
    have hbX : Below w.heap.size w X := by rw [hX]; exact (Below.refl _ _).alloc (Nat.le_refl _) _
    have hbj : Blk X gj (jbC j) 41 := by rw [hX, hgj]; exact Blk.new w _ _
    have HBX := Lib.hid hbX
    have HBJ := Lib.hid hbj
    have hgl : gj < X.heap.size := hbj.lt
    clear hr hk hjk hk0 hkj hf hok hid1 hbX
    go_enter Try.func19, Try.ntmps19
    go_wp2_with fail
    refine TH.out.mono ?_; rintro e w1 ⟨rfl, hw⟩
    replace hw := hw.symm; subst hw
    go_upto_region 4 with (first | (refine ld_jb rfl _ rfl _ _ rfl _ hrg ?_) | (refine st_jb rfl _ _ rfl _ _ rfl rfl j rfl rfl hone ?_))
    rw [← hX, ← hgj]
    clear hX hgj hrg hbj TH
    go_wp2_with fail
    go_loopw [6, 7] (fun nv iv wr => ∃ i n : Nat, i ≤ N ∧ n ≤ i ∧ iv = .int .i64 (i : Nat) ∧ nv = .int .i64 (n : Nat) ∧ Hid (n = (l.take i).countP (runJ j)) ∧ Hid (Below X.heap.size X wr)) (fun _ iv _ => N - (RowKit.intOf iv).toNat)
    case atStart => exact ⟨0, 0, Nat.zero_le _, Nat.zero_le _, rfl, rfl, rfl, Below.refl _ _⟩
    case round =>
      obtain ⟨i, n, hi, hni, rfl, rfl, HO, HB⟩ := hrel
      have HBw := Lib.hid (below_next HB.out HBX.out)
      by_cases hlt : i < N
      · have d1 : decide ((i : Int) < (N : Int)) = true := decide_eq_true (by omega)
        have d1' : decide (i < N) = true := decide_eq_true hlt
        have hii : (i : Int) < (N : Int) := by omega
        have hik : i < l.length := by rw [← HN.out]; exact hlt
        obtain ⟨bb, off, e, hrg⟩ := JRw.at HL.out HBw.out hik
        injection e with e; injection e with e1 e2; subst e1; subst e2
        have HCT : Hid ((l.take (i + 1)).countP (runJ j) = n + if ((l[i].arr == j.arr) && ((l[i].how == 3) || (l[i].how == 4))) = true then 1 else 0) := by
          unfold Hid; rw [count_take _ _ hik, ← HO.out, runR_eq (HW0.out _ (List.getElem_mem hik))]; rfl
        have x1 : wr.cell? ⟨bb0, off0 + i * 26 + 1, none⟩ = some (.int .u32 (l[i].arr : Nat)) := hrg 1 _ rfl
        have x19 : wr.cell? ⟨bb0, off0 + i * 26 + 19, none⟩ = some (.int .i64 l[i].how) := hrg 19 _ rfl
        have y1 : wr.cell? ⟨gj, 1, none⟩ = some (.int .u32 (j.arr : Nat)) := blk_jb (HBJ.out.kept HB.out) 1
        obtain ⟨oa, hoa⟩ : ∃ x, x = l[i].arr := ⟨_, rfl⟩
        obtain ⟨oh, hoh⟩ : ∃ x, x = l[i].how := ⟨_, rfl⟩
        obtain ⟨ja, hja⟩ : ∃ x, x = j.arr := ⟨_, rfl⟩
        rw [← hoa, ← hoh, ← hja] at HCT
        rw [← hoa] at x1
        rw [← hoh] at x19
        rw [← hja] at y1
        clear hoa hoh hja hrg HO
        obtain ⟨a1, p1⟩ : ∃ b, ((oa : Int) == (ja : Int)) = b := ⟨_, rfl⟩
        obtain ⟨b1, p4⟩ : ∃ b, (oh == 3) = b := ⟨_, rfl⟩
        obtain ⟨b2, p5⟩ : ∃ b, (oh == 4) = b := ⟨_, rfl⟩
        have p1' : (oa == ja) = a1 := by rw [← p1, Bool.eq_iff_iff]; simp <;> omega
        have HC2 : Hid ((l.take (i + 1)).countP (runJ j) = n + if (a1 && (b1 || b2)) = true then 1 else 0) := by
          unfold Hid; rw [HCT.out, p1', p4, p5]
        clear HCT
        cases a1 with
        | false =>
          have HC3 : Hid (n = (l.take (i + 1)).countP (runJ j)) := HC2.out.symm
          clear HC2
          go_wp2_with fail
          go_quiet (fail)
          go_wp2_with fail
          go_roundw
          case rel => exact ⟨i + 1, n, hlt, by omega, by go_num, rfl, HC3.out, below_drewN HB.out _⟩
          case measure => simp [RowKit.intOf]; omega
        | true =>
          cases b1 with
          | true =>
            have HC3 : Hid (n + 1 = (l.take (i + 1)).countP (runJ j)) := HC2.out.symm
            clear HC2
            go_wp2_with fail
            go_quiet (fail)
            go_wp2_with fail
            go_roundw
            case rel => exact ⟨i + 1, n + 1, hlt, by omega, by go_num, by go_num, HC3.out, below_drewN HB.out _⟩
            case measure => simp [RowKit.intOf]; omega
          | false =>
            cases b2 with
            | true =>
              have HC3 : Hid (n + 1 = (l.take (i + 1)).countP (runJ j)) := HC2.out.symm
              clear HC2
              go_wp2_with fail
              go_quiet (fail)
              go_wp2_with fail
              go_roundw
              case rel => exact ⟨i + 1, n + 1, hlt, by omega, by go_num, by go_num, HC3.out, below_drewN HB.out _⟩
              case measure => simp [RowKit.intOf]; omega
            | false =>
              have HC3 : Hid (n = (l.take (i + 1)).countP (runJ j)) := HC2.out.symm
              clear HC2
              go_wp2_with fail
              go_quiet (fail)
              go_wp2_with fail
              go_roundw
              case rel => exact ⟨i + 1, n, hlt, by omega, by go_num, rfl, HC3.out, below_drewN HB.out _⟩
              case measure => simp [RowKit.intOf]; omega
      · have d1 : decide ((i : Int) < (N : Int)) = false := decide_eq_false (by omega)
        have d1' : decide (i < N) = false := decide_eq_false hlt
        have HC3 : Hid (r = ((j.arr == 0) || ((j.most == 0) || decide ((n : Int) < j.most)))) := by
          unfold Hid; rw [HR.out, HO.out, List.take_of_length_le (by have := HN.out; omega)]
        have y1 : wr.cell? ⟨gj, 1, none⟩ = some (.int .u32 (j.arr : Nat)) := blk_jb (HBJ.out.kept HB.out) 1
        have y10 : wr.cell? ⟨gj, 10, none⟩ = some (.int .i64 j.most) := blk_jb (HBJ.out.kept HB.out) 10
        obtain ⟨ja, hja⟩ : ∃ x, x = j.arr := ⟨_, rfl⟩
        obtain ⟨jm, hjm⟩ : ∃ x, x = j.most := ⟨_, rfl⟩
        rw [← hja, ← hjm] at HC3
        rw [← hja] at y1
        rw [← hjm] at y10
        clear HO hja hjm HR
        obtain ⟨a1, p1⟩ : ∃ b, ((ja : Int) == 0) = b := ⟨_, rfl⟩
        obtain ⟨a2, p2⟩ : ∃ b, (jm == 0) = b := ⟨_, rfl⟩
        have p1' : (ja == 0) = a1 := by rw [← p1, Bool.eq_iff_iff]; simp <;> omega
        have HC4 : Hid (r = (a1 || (a2 || decide ((n : Int) < jm)))) := by unfold Hid; rw [HC3.out, p1', p2]
        clear HC3
        cases a1 with
        | true =>
          go_wp2_with fail
          go_ret
          exact ⟨by rw [HC4.out]; rfl, HBw.out⟩
        | false =>
          cases a2 with
          | true =>
            go_wp2_with fail
            go_ret
            exact ⟨by rw [HC4.out]; rfl, HBw.out⟩
          | false =>
            go_wp2_with fail
            go_ret
            exact ⟨by rw [HC4.out]; rfl, HBw.out⟩
end

section
open Go Go.RowKit Go.Lib
theorem allW_take (l : List Jb) {i : Nat} (h : i < l.length) : allW (l.take (i + 1)) = allW (l.take i) ++ [(l[i].id, howJ l[i].how)] := by
  unfold allW
  rw [List.take_add_one, List.getElem?_eq_getElem h, List.map_append]
  rfl
set_option maxRecDepth 100000 in
set_option maxHeartbeats 4000000 in
theorem rSay_any (v : Value) (l : List Jb) (id : Nat) (now : Int) (w : World) (h : JRw w v l) (hid : id < 4294967296) :
    Calls Try.prog 21 #[v, .int .u32 (id : Nat), .int .i64 now] w fun e w' => e = .returned (.int .i64 (SayJ l id now)) ∧ Below w.heap.size w w' := by
  obtain ⟨i0, hi0, hz0, hz1, hz2⟩ := info_parts Try.infoWh
  have TH := Lib.hid (rthere_any v l id w h hid)
  have HL := Lib.hid h
  have hlen := h.len
  obtain ⟨a, c, rfl⟩ := h.row.slice
  obtain ⟨N, hN⟩ : ∃ N, N = l.length := ⟨_, rfl⟩
  have AL : Hid (∀ w1, Below w.heap.size w w1 → Calls Try.prog 17 #[.slice a N c, .int .u32 (id : Nat)] w1 fun e w' => e = .returned (.bool (AloneJ l id)) ∧ Below w1.heap.size w1 w') := fun w1 hb => by
    rw [hN]; exact rAlone_any _ l id w1 (h.kept hb) hid
  have RM : Hid (∀ w1, Below w.heap.size w w1 → Calls Try.prog 19 #[.slice a N c, .int .u32 (id : Nat)] w1 fun e w' => e = .returned (.bool (RoomJ l id)) ∧ Below w1.heap.size w1 w') := fun w1 hb => by
    rw [hN]; exact rRoom_any _ l id w1 (h.kept hb) hid
  rw [← hN] at TH hlen ⊢
  have HN := Lib.hid hN
  clear h hN
  obtain ⟨r, hr⟩ : ∃ r, r = SayJ l id now := ⟨_, rfl⟩
  rw [← hr]
  unfold SayJ at hr
  unfold thereJ at TH
  cases hf : findJ l id with
  | none =>
    rw [hf] at TH hr
    have HE := Lib.hid hr
    clear hr AL RM
    go_enter Try.func21, Try.ntmps21
    go_wp2_with fail
    refine TH.out.mono ?_; rintro e w1 ⟨rfl, hw⟩
    replace hw := hw.symm; subst hw
    go_wp2_with fail
    go_ret
    exact ⟨by rw [HE.out]; rfl, Below.refl _ _⟩
  | some j =>
    rw [hf] at TH hr
    have hAJ : AloneJ l id = aloneJ l j := by unfold AloneJ; rw [hf]
    have hRJ : RoomJ l id = roomJ l j := by unfold RoomJ; rw [hf]
    rw [hAJ] at AL
    rw [hRJ] at RM
    obtain ⟨hok, hid1, hk0, hkj⟩ := findJ_mem hf
    obtain ⟨k, hk⟩ : ∃ k, k = id - 1 := ⟨_, rfl⟩
    have hkl : k < l.length := by rw [hk]; exact hk0
    have hkN : k < N := by rw [HN.out]; exact hkl
    have hjk : l[k] = j := by rw [← hkj]; congr 1
    have hk1 : IntKind.u32.wrap ((id : Int) - 1) = (k : Int) := by
      have : (id : Int) - 1 = (k : Int) := by omega
      rw [this]; exact Int.emod_eq_of_lt (by omega) (by show _ < (4294967296 : Int); omega)
    have hkN2 : (k : Int) < (N : Int) := by omega
    have hkd : decide ((k : Int) < (N : Int)) = true := decide_eq_true hkN2
    obtain ⟨bb0, off0, e, hrg⟩ := JRw.at HL.out (Below.refl _ _) hkl
    subst e
    rw [hjk] at hrg
    have hmem : j ∈ l := by rw [← hjk]; exact List.getElem_mem hkl
    have hone : JbS j := HL.out.one hmem
    have hnd := HL.out.nds j hmem
    have hho : howJ j.how ≠ 0 := by rw [← hjk]; exact (okJs_iff.1 hok k hkl).2
    have x19 : w.cell? ⟨bb0, off0 + k * 26 + 19, none⟩ = some (.int .i64 j.how) := hrg 19 _ rfl
    by_cases h2 : j.how > 2
    · have d2 : decide (j.how > 2) = true := decide_eq_true h2
      have d2' : decide (2 < j.how) = true := decide_eq_true h2
      have HE : Hid (r = 0) := by
        unfold Hid; rw [hr]; show sayJ l j now = 0; unfold sayJ; rw [if_neg]
        intro h; unfold howJ at h; repeat' split at h
        all_goals omega
      obtain ⟨jh, hjh⟩ : ∃ x, x = j.how := ⟨_, rfl⟩
      rw [← hjh] at x19 d2 d2'
      clear hr AL RM hjh h2 hrg hk hjk hk0 hkj hf hok hid1 hho
      go_enter Try.func21, Try.ntmps21
      go_wp2_with fail
      refine TH.out.mono ?_; rintro e w1 ⟨rfl, hw⟩
      replace hw := hw.symm; subst hw
      go_wp2_with fail
      go_ret
      exact ⟨by rw [HE.out]; rfl, Below.refl _ _⟩
    · have d2 : decide (j.how > 2) = false := decide_eq_false h2
      have d2' : decide (2 < j.how) = false := decide_eq_false h2
      have HE : Hid (r = if sayB j.any (aloneJ l j) (allW l) (ndsOf j.nd) = 2 ∧ (j.how = 2 ∨ j.beg > now ∨ roomJ l j = false) then 1 else sayB j.any (aloneJ l j) (allW l) (ndsOf j.nd)) := by
        unfold Hid; rw [hr]; show sayJ l j now = _; unfold sayJ; rw [if_pos]
        have h1 : 1 ≤ j.how := by
          unfold howJ at hho; repeat' split at hho
          all_goals omega
        unfold howJ; rw [if_pos (by omega)]
      obtain ⟨X, hX⟩ : ∃ X, X = w.alloc (.cells (jbC j) 41) := ⟨_, rfl⟩
      obtain ⟨gj, hgj⟩ : ∃ g, g = w.heap.size := ⟨_, rfl⟩
      have hbX : Below w.heap.size w X := by rw [hX]; exact (Below.refl _ _).alloc (Nat.le_refl _) _
      have hbj : Blk X gj (jbC j) 41 := by rw [hX, hgj]; exact Blk.new w _ _
      obtain ⟨da, dc, edv⟩ := hnd.row.slice
      obtain ⟨LD, hLD⟩ : ∃ L, L = j.nd.length := ⟨_, rfl⟩
      rw [← hLD] at edv
      obtain ⟨R, hR⟩ : ∃ R, R = sayB j.any (aloneJ l j) (allW l) (ndsOf j.nd) := ⟨_, rfl⟩
      obtain ⟨al, hal⟩ : ∃ b, b = aloneJ l j := ⟨_, rfl⟩
      obtain ⟨rm, hrm⟩ : ∃ b, b = roomJ l j := ⟨_, rfl⟩
      have DS : Hid (∀ w1 la lc, Below w.heap.size w w1 → RowG 2 whV w1 (.slice la N lc) (allW l) → Calls Try.prog 34 #[.agg #[.bool j.any, .slice da LD dc], .slice la N lc, .bool al] w1 fun e w' => e = .returned (.int .i64 R) ∧ Below w1.heap.size w1 w') := fun w1 la lc hb hrow => by
        rw [hR, ← edv, ← hal]
        exact rsay_any j.any j.dv j.nd _ (allW l) al w1 (hnd.kept hb) hrow (by rw [allW_len]; exact HL.out.len)
      rw [← hal] at AL
      rw [← hrm] at RM
      rw [← hR, ← hrm] at HE
      have HBX := Lib.hid hbX
      have HBJ := Lib.hid hbj
      have EDV := Lib.hid edv
      have hgl : gj < X.heap.size := hbj.lt
      have x19h : Hid (w.cell? ⟨bb0, off0 + k * 26 + 19, none⟩ = some (.int .i64 j.how)) := x19
      obtain ⟨jh, hjh⟩ : ∃ x, x = j.how := ⟨_, rfl⟩
      rw [← hjh] at x19 d2 d2'
      have HJH := Lib.hid hjh
      clear hr hk hjk hk0 hkj hf hok hid1 hbX hR hal hrm hAJ hRJ hho h2 hnd hLD hjh x19h
      go_enter Try.func21, Try.ntmps21
      go_wp2_with fail
      refine TH.out.mono ?_; rintro e w1 ⟨rfl, hw⟩
      replace hw := hw.symm; subst hw
      go_upto_region 4 with (first | (refine ld_jb rfl _ rfl _ _ rfl _ hrg ?_) | (refine st_jb rfl _ _ rfl _ _ rfl rfl j rfl rfl hone ?_))
      rw [← hX, ← hgj]
      clear hX hgj hrg hbj TH x19
      go_wp2_with fail
      go_loopw [8, 9] (fun sv iv wr => ∃ i : Nat, i ≤ N ∧ iv = .int .i64 (i : Nat) ∧ Hid (wr.ownsRow X.heap.size 68 2 sv i ((allW (l.take i)).flatMap whV)) ∧ Hid (Below X.heap.size X wr)) (fun _ iv _ => N - (RowKit.intOf iv).toNat)
      case atStart => exact ⟨0, Nat.zero_le _, rfl, World.ownsRow_nil _ _ _ _, Below.refl _ _⟩
      case round =>
        obtain ⟨i, hi, rfl, HO, HB⟩ := hrel
        have HBw := Lib.hid (below_next HB.out HBX.out)
        by_cases hlt : i < N
        · have d1 : decide ((i : Int) < (N : Int)) = true := decide_eq_true (by omega)
          have d1' : decide (i < N) = true := decide_eq_true hlt
          have hii : (i : Int) < (N : Int) := by omega
          have hik : i < l.length := by rw [← HN.out]; exact hlt
          obtain ⟨bb, off, e, hrg⟩ := JRw.at HL.out HBw.out hik
          injection e with e; injection e with e1 e2; subst e1; subst e2
          have HT : Hid (allW (l.take (i + 1)) = allW (l.take i) ++ [(l[i].id, howJ l[i].how)]) := allW_take l hik
          have HRGa : ∀ w', Below w.heap.size w w' → w'.rangeAt bb0 (off0 + i * 26) (jbV l[i]) := fun w' hb => by
            obtain ⟨b', o', e', h'⟩ := JRw.at HL.out hb hik
            injection e' with e'; injection e' with e1 e2; subst e1; subst e2
            exact h'
          obtain ⟨o, ho⟩ : ∃ o, o = l[i] := ⟨_, rfl⟩
          rw [← ho] at HRGa HT
          have C : Hid (∀ w1, Calls Try.prog 15 #[.agg (jbC o)] w1 fun e w' => e = .returned (.int .i64 (howJ o.how)) ∧ Below w1.heap.size w1 w') := fun w1 => rhow14_any o w1
          have HX00 : Hid (∀ w', Below w.heap.size w w' → w'.cell? ⟨bb0, off0 + i * 26, none⟩ = some (.int .u32 (o.id : Nat))) := fun w' hb => by have := HRGa w' hb 0 _ rfl; rwa [Nat.add_zero] at this
          obtain ⟨oi, hoi⟩ : ∃ x, x = o.id := ⟨_, rfl⟩
          obtain ⟨hv, hhv⟩ : ∃ x, x = howJ o.how := ⟨_, rfl⟩
          rw [← hoi, ← hhv] at HT
          rw [← hhv] at C
          rw [← hoi] at HX00
          have HX0 : Hid (∀ w', Below w.heap.size w w' → w'.cell? ⟨bb0, off0 + i * 26, none⟩ = some (.int .u32 (oi : Nat))) := fun w' hb => HX00.out w' hb
          have HRG := Lib.hid HRGa
          obtain ⟨sa, sc, rfl⟩ := own_slice HO.out
          clear ho hoi hhv hrg HRGa HX00
          go_wp2_with fail
          refine wp_region_held_drew (S := fun w' => Below X.heap.size X w') (by kernel_rfl) (by
            first
              | exact HB.out.drew
            ) (fun hHeld => ?_)
          refine wpAnyH_take (i := 0) (oi := { dst := some 35, op := Op.move (Operand.tmp 8), type := 66, pos := "ref.go:79", after := #[], guard := none }) (v := ?_) rfl (by kernel_rfl) (by kernel_rfl) (by kernel_rfl) (fun _ _ _ h => h) (Or.inl ⟨by kernel_rfl, ?_⟩) (by assumption) ?_
          rotate_left
          · (intro w hSw; (try dsimp only at hSw); go_simp; try with_reducible rfl)
          try simp only [Act.put, List.setIfInBounds_toArray, List.set_cons_zero, List.set_cons_succ]
          refine wpAnyH_take (i := 1) (oi := { dst := some 36, op := Op.move (Operand.tmp 0), type := 22, pos := "ref.go:79", after := #[], guard := none }) (v := ?_) rfl (by kernel_rfl) (by kernel_rfl) (by kernel_rfl) (fun _ _ _ h => h) (Or.inl ⟨by kernel_rfl, ?_⟩) (by assumption) ?_
          rotate_left
          · (intro w hSw; (try dsimp only at hSw); go_simp; try with_reducible rfl)
          try simp only [Act.put, List.setIfInBounds_toArray, List.set_cons_zero, List.set_cons_succ]
          refine wpAnyH_take (i := 2) (oi := { dst := some 37, op := Op.move (Operand.tmp 9), type := 3, pos := "ref.go:79", after := #[], guard := none }) (v := ?_) rfl (by kernel_rfl) (by kernel_rfl) (by kernel_rfl) (fun _ _ _ h => h) (Or.inl ⟨by kernel_rfl, ?_⟩) (by assumption) ?_
          rotate_left
          · (intro w hSw; (try dsimp only at hSw); go_simp; try with_reducible rfl)
          try simp only [Act.put, List.setIfInBounds_toArray, List.set_cons_zero, List.set_cons_succ]
          refine wpAnyH_take (i := 3) (oi := { dst := some 38, op := Op.indexAddr 22 (Operand.tmp 36) (Operand.tmp 37), type := 0, pos := "ref.go:79", after := #[{ on := 1, ground := Ground.data }, { on := 2, ground := Ground.data }], guard := none }) (v := ?_) rfl (by kernel_rfl) (by kernel_rfl) (by kernel_rfl) (fun _ _ _ h => h) (Or.inl ⟨by kernel_rfl, ?_⟩) (by assumption) ?_
          rotate_left
          · (intro w hSw; (try dsimp only at hSw); go_simp; try with_reducible rfl)
          try simp only [Act.put, List.setIfInBounds_toArray, List.set_cons_zero, List.set_cons_succ]
          refine wpAnyH_take (i := 4) (oi := { dst := some 39, op := Op.fieldAddr 41 (Operand.tmp 38) 0, type := 0, pos := "ref.go:79", after := #[{ on := 3, ground := Ground.data }], guard := none }) (v := ?_) rfl (by kernel_rfl) (by kernel_rfl) (by kernel_rfl) (fun _ _ _ h => h) (Or.inl ⟨by kernel_rfl, ?_⟩) (by assumption) ?_
          rotate_left
          · (intro w hSw; (try dsimp only at hSw); go_simp; try with_reducible rfl)
          try simp only [Act.put, List.setIfInBounds_toArray, List.set_cons_zero, List.set_cons_succ]
          refine wpAnyH_take (i := 5) (oi := { dst := some 40, op := Op.load 23 (Operand.tmp 39), type := 23, pos := "ref.go:79", after := #[{ on := 4, ground := Ground.data }], guard := none }) (v := ?_) rfl (by kernel_rfl) (by kernel_rfl) (by kernel_rfl) (fun _ _ _ h => h) (Or.inl ⟨by kernel_rfl, ?_⟩) (by assumption) ?_
          rotate_left
          · (intro w hSw; have x0 := HX0.out w (below_next hSw HBX.out); go_simp; try with_reducible rfl)
          try simp only [Act.put, List.setIfInBounds_toArray, List.set_cons_zero, List.set_cons_succ]
          refine wpAnyH_take (i := 6) (oi := { dst := some 41, op := Op.move (Operand.tmp 0), type := 22, pos := "ref.go:79", after := #[], guard := none }) (v := ?_) rfl (by kernel_rfl) (by kernel_rfl) (by kernel_rfl) (fun _ _ _ h => h) (Or.inl ⟨by kernel_rfl, ?_⟩) (by assumption) ?_
          rotate_left
          · (intro w hSw; (try dsimp only at hSw); go_simp; try with_reducible rfl)
          try simp only [Act.put, List.setIfInBounds_toArray, List.set_cons_zero, List.set_cons_succ]
          refine wpAnyH_take (i := 7) (oi := { dst := some 42, op := Op.move (Operand.tmp 9), type := 3, pos := "ref.go:79", after := #[], guard := none }) (v := ?_) rfl (by kernel_rfl) (by kernel_rfl) (by kernel_rfl) (fun _ _ _ h => h) (Or.inl ⟨by kernel_rfl, ?_⟩) (by assumption) ?_
          rotate_left
          · (intro w hSw; (try dsimp only at hSw); go_simp; try with_reducible rfl)
          try simp only [Act.put, List.setIfInBounds_toArray, List.set_cons_zero, List.set_cons_succ]
          refine wpAnyH_take (i := 8) (oi := { dst := some 43, op := Op.indexAddr 22 (Operand.tmp 41) (Operand.tmp 42), type := 0, pos := "ref.go:79", after := #[{ on := 6, ground := Ground.data }, { on := 7, ground := Ground.data }], guard := none }) (v := ?_) rfl (by kernel_rfl) (by kernel_rfl) (by kernel_rfl) (fun _ _ _ h => h) (Or.inl ⟨by kernel_rfl, ?_⟩) (by assumption) ?_
          rotate_left
          · (intro w hSw; (try dsimp only at hSw); go_simp; try with_reducible rfl)
          try simp only [Act.put, List.setIfInBounds_toArray, List.set_cons_zero, List.set_cons_succ]
          refine wpAnyH_take (i := 9) (oi := { dst := some 44, op := Op.load 41 (Operand.tmp 43), type := 41, pos := "ref.go:79", after := #[{ on := 8, ground := Ground.data }], guard := none }) (v := .agg (jbC o)) rfl (by kernel_rfl) (by kernel_rfl) (by kernel_rfl) (fun _ _ _ h => h) (yieldsIf_load_mid (by kernel_rfl) _ _ rfl _ _ rfl (jbV o) _ (fun w hSw => HRG.out w (below_next hSw HBX.out)) Try.underlying41 rfl Try.sizeJb) (by assumption) ?_
          try simp only [Act.put, List.setIfInBounds_toArray, List.set_cons_zero, List.set_cons_succ]
          refine wpAnyH_ready (rs := [10]) (by kernel_rfl) (by simp) ?_
          refine AllReadyH.cons (o := { dst := some 45, op := Op.call { callee := Callee.value (Operand.func 15), args := #[Operand.tmp 44], argTypes := #[41] }, type := 3, pos := "ref.go:79", after := #[{ on := 9, ground := Ground.data }], guard := none }) rfl (fun K hK => ?_) AllReadyH.nil
          go_simp
          (with_reducible refine (C.out _).mono ?_)
          rintro e w5 ⟨rfl, b5⟩
          have HO5 := Lib.hid (own_older (w := wr.drew) HO.out b5)
          try go_wp2_with fail
          refine hK.out _ _ ?_ (fun hHeld => ?_)
          · first
              | exact below_next b5 hHeld
              | exact hHeld.alloc hHeld.size _
              | exact hHeld.grown hgrow8 hHeld.size (fun q hq => (own_ge HO5.out hq).1)
          clear hK K
          try simp only [Act.put, List.setIfInBounds_toArray, List.set_cons_zero, List.set_cons_succ]
          refine wpAnyH_take (i := 11) (oi := { dst := some 46, op := Op.build 68 #[(0, Operand.tmp 40), (1, Operand.tmp 45)], type := 68, pos := "ref.go:79", after := #[{ on := 5, ground := Ground.data }, { on := 10, ground := Ground.data }], guard := none }) (v := ?_) rfl (by kernel_rfl) (by kernel_rfl) (by kernel_rfl) (fun _ _ _ h => h) (Or.inl ⟨by kernel_rfl, ?_⟩) (by assumption) ?_
          rotate_left
          · (intro w hSw; (try dsimp only at hSw); go_simp; try with_reducible rfl)
          try simp only [Act.put, List.setIfInBounds_toArray, List.set_cons_zero, List.set_cons_succ]
          refine wpAnyH_ready (rs := [12]) (by kernel_rfl) (by simp) ?_
          refine AllReadyH.cons (o := { dst := some 47, op := Op.buildSlice 66 1 #[(0, Operand.tmp 46)], type := 66, pos := "ref.go:79", after := #[{ on := 11, ground := Ground.data }], guard := none }) rfl (fun K hK => ?_) AllReadyH.nil
          go_simp
          refine hK.out _ _ ?_ (fun hHeld => ?_)
          · first
              | exact below_next b5 hHeld
              | exact hHeld.alloc hHeld.size _
              | exact hHeld.grown hgrow8 hHeld.size (fun q hq => (own_ge HO5.out hq).1)
          clear hK K
          try simp only [Act.put, List.setIfInBounds_toArray, List.set_cons_zero, List.set_cons_succ]
          refine wpAnyH_ready (rs := [13]) (by kernel_rfl) (by simp) ?_
          refine AllReadyH.cons (o := { dst := some 48, op := Op.call { callee := Callee.builtin Builtin.append, args := #[Operand.tmp 35, Operand.tmp 47], argTypes := #[66, 66] }, type := 66, pos := "ref.go:79", after := #[{ on := 0, ground := Ground.data }, { on := 12, ground := Ground.data }, { on := 10, ground := Ground.chain }], guard := none }) rfl (fun K hK => ?_) AllReadyH.nil
          (refine step_append_lies _ (by rfl) _ _ 66 (by rfl) X.heap.size 68 i0 _ 2 16 Try.underlying66 hi0 hz0 hz1 hz2 rfl (by decide) _ i ((allW (l.take i)).flatMap whV) (by rfl) (World.ownsRow.alloc HO5.out _) ⟨w5.heap.size, 0, none⟩ 1 1 (whV (oi, hv)) (by rfl) (by rfl) (news_alloc w5 (whV (oi, hv)) 68) (fun u hu => whV_one [(oi, hv)] u (by simpa using hu)) (by decide) (by unfold maxLen; omega) (by omega) (by have := hHeld.size; omega) (w5.heap.size + 1) (by simp) ?_; intro g8 cap8 w8 hown8 hgrow8 _ _)
          refine hK.out _ _ ?_ (fun hHeld => ?_)
          · first
              | exact below_next b5 hHeld
              | exact hHeld.alloc hHeld.size _
              | exact hHeld.grown hgrow8 hHeld.size (fun q hq => (own_ge HO5.out hq).1)
          clear hK K
          try simp only [Act.put, List.setIfInBounds_toArray, List.set_cons_zero, List.set_cons_succ]
          refine wpAnyH_take (i := 14) (oi := { dst := some 8, op := Op.assign (Operand.tmp 48), type := 66, pos := "ref.go:79", after := #[{ on := 13, ground := Ground.data }, { on := 13, ground := Ground.chain }, { on := 0, ground := Ground.phase }, { on := 1, ground := Ground.phase }, { on := 2, ground := Ground.phase }, { on := 3, ground := Ground.phase }, { on := 4, ground := Ground.phase }, { on := 5, ground := Ground.phase }, { on := 6, ground := Ground.phase }, { on := 7, ground := Ground.phase }, { on := 8, ground := Ground.phase }, { on := 9, ground := Ground.phase }, { on := 10, ground := Ground.phase }, { on := 11, ground := Ground.phase }, { on := 12, ground := Ground.phase }, { on := 13, ground := Ground.phase }], guard := none }) (v := ?_) rfl (by kernel_rfl) (by kernel_rfl) (by kernel_rfl) (fun _ _ _ h => h) (Or.inl ⟨by kernel_rfl, ?_⟩) (by assumption) ?_
          rotate_left
          · (intro w hSw; (try dsimp only at hSw); go_simp; try with_reducible rfl)
          try simp only [Act.put, List.setIfInBounds_toArray, List.set_cons_zero, List.set_cons_succ]
          refine wpAnyH_done (by kernel_rfl) ?_ _
          have HB8 := Lib.hid hHeld
          have HO8 := Lib.hid hown8
          clear hHeld hown8 hgrow8 b5
          go_wp2_with fail
          go_roundw
          case rel =>
            refine ⟨i + 1, hlt, by go_num, ?_, HB8.out⟩
            unfold Hid
            rw [HT.out, List.flatMap_append]
            simpa using HO8.out
          case measure => simp [RowKit.intOf]; omega
        · have d1 : decide ((i : Int) < (N : Int)) = false := decide_eq_false (by omega)
          have d1' : decide (i < N) = false := decide_eq_false hlt
          obtain rfl : i = N := by omega
          obtain ⟨sa, sc, rfl⟩ := own_slice HO.out
          have HRW : Hid (RowG 2 whV wr (.slice sa i sc) (allW l)) := by
            have h := HO.out
            rw [List.take_of_length_le (by have := HN.out; omega)] at h
            have e : i = (allW l).length := by rw [allW_len]; exact HN.out
            exact rowG_of_own whV_len (by rw [← e]; exact h)
          have z11 : wr.cell? ⟨gj, 11, none⟩ = some (.bool j.any) := blk_jb (HBJ.out.kept HB.out) 11
          have z12 : wr.cell? ⟨gj, 12, none⟩ = some (.slice da LD dc) := by rw [← EDV.out]; exact blk_jb (HBJ.out.kept HB.out) 12
          have z19 : wr.cell? ⟨gj, 19, none⟩ = some (.int .i64 jh) := by rw [HJH.out]; exact blk_jb (HBJ.out.kept HB.out) 19
          have z14 : wr.cell? ⟨gj, 14, none⟩ = some (.int .i64 j.beg) := blk_jb (HBJ.out.kept HB.out) 14
          clear HO
          go_wp2_with fail
          refine wp_region_held_drew (S := fun w' => w'.cell? ⟨gj, 11, none⟩ = some (.bool j.any) ∧ w'.cell? ⟨gj, 12, none⟩ = some (.slice da LD dc) ∧ w'.cell? ⟨gj, 19, none⟩ = some (.int .i64 jh) ∧ w'.cell? ⟨gj, 14, none⟩ = some (.int .i64 j.beg) ∧ RowG 2 whV w' (.slice sa i sc) (allW l) ∧ Below w.heap.size w w') (by kernel_rfl) (by
            first
              | exact ⟨z11, z12, z19, z14, HRW.out, HBw.out.drew⟩
            ) (fun hHeld => ?_)
          refine wpAnyH_take (i := 0) (oi := { dst := some 49, op := Op.fieldAddr 41 (Operand.tmp 7) 3, type := 0, pos := "ref.go:81", after := #[], guard := none }) (v := ?_) rfl (by kernel_rfl) (by kernel_rfl) (by kernel_rfl) (fun _ _ _ h => h) (Or.inl ⟨by kernel_rfl, ?_⟩) (by assumption) ?_
          rotate_left
          · (intro w hSw; (try dsimp only at hSw); go_simp; try with_reducible rfl)
          try simp only [Act.put, List.setIfInBounds_toArray, List.set_cons_zero, List.set_cons_succ]
          refine wpAnyH_take (i := 1) (oi := { dst := some 50, op := Op.fieldAddr 37 (Operand.tmp 49) 7, type := 0, pos := "ref.go:81", after := #[{ on := 0, ground := Ground.data }], guard := none }) (v := ?_) rfl (by kernel_rfl) (by kernel_rfl) (by kernel_rfl) (fun _ _ _ h => h) (Or.inl ⟨by kernel_rfl, ?_⟩) (by assumption) ?_
          rotate_left
          · (intro w hSw; (try dsimp only at hSw); go_simp; try with_reducible rfl)
          try simp only [Act.put, List.setIfInBounds_toArray, List.set_cons_zero, List.set_cons_succ]
          refine wpAnyH_take (i := 2) (oi := { dst := some 51, op := Op.load 35 (Operand.tmp 50), type := 35, pos := "ref.go:81", after := #[{ on := 1, ground := Ground.data }], guard := none }) (v := ?_) rfl (by kernel_rfl) (by kernel_rfl) (by kernel_rfl) (fun _ _ _ h => h) (Or.inl ⟨by kernel_rfl, ?_⟩) (by assumption) ?_
          rotate_left
          · (intro w hSw; (try dsimp only at hSw); go_simp; try with_reducible rfl)
          try simp only [Act.put, List.setIfInBounds_toArray, List.set_cons_zero, List.set_cons_succ]
          refine wpAnyH_take (i := 3) (oi := { dst := some 52, op := Op.move (Operand.tmp 8), type := 66, pos := "ref.go:81", after := #[], guard := none }) (v := ?_) rfl (by kernel_rfl) (by kernel_rfl) (by kernel_rfl) (fun _ _ _ h => h) (Or.inl ⟨by kernel_rfl, ?_⟩) (by assumption) ?_
          rotate_left
          · (intro w hSw; (try dsimp only at hSw); go_simp; try with_reducible rfl)
          try simp only [Act.put, List.setIfInBounds_toArray, List.set_cons_zero, List.set_cons_succ]
          refine wpAnyH_take (i := 4) (oi := { dst := some 53, op := Op.move (Operand.tmp 0), type := 22, pos := "ref.go:81", after := #[], guard := none }) (v := ?_) rfl (by kernel_rfl) (by kernel_rfl) (by kernel_rfl) (fun _ _ _ h => h) (Or.inl ⟨by kernel_rfl, ?_⟩) (by assumption) ?_
          rotate_left
          · (intro w hSw; (try dsimp only at hSw); go_simp; try with_reducible rfl)
          try simp only [Act.put, List.setIfInBounds_toArray, List.set_cons_zero, List.set_cons_succ]
          refine wpAnyH_take (i := 5) (oi := { dst := some 54, op := Op.move (Operand.tmp 1), type := 23, pos := "ref.go:81", after := #[], guard := none }) (v := ?_) rfl (by kernel_rfl) (by kernel_rfl) (by kernel_rfl) (fun _ _ _ h => h) (Or.inl ⟨by kernel_rfl, ?_⟩) (by assumption) ?_
          rotate_left
          · (intro w hSw; (try dsimp only at hSw); go_simp; try with_reducible rfl)
          try simp only [Act.put, List.setIfInBounds_toArray, List.set_cons_zero, List.set_cons_succ]
          refine wpAnyH_ready (rs := [6]) (by kernel_rfl) (by simp) ?_
          refine AllReadyH.cons (o := { dst := some 55, op := Op.call { callee := Callee.value (Operand.func 17), args := #[Operand.tmp 53, Operand.tmp 54], argTypes := #[22, 23] }, type := 4, pos := "ref.go:81", after := #[{ on := 4, ground := Ground.data }, { on := 5, ground := Ground.data }], guard := none }) rfl (fun K hK => ?_) AllReadyH.nil
          go_simp
          (with_reducible refine (AL.out _ hHeld.2.2.2.2.2).mono ?_)
          rintro e w5 ⟨rfl, b5⟩
          try go_wp2_with fail
          refine hK.out _ _ ?_ (fun hHeld => ?_)
          · first
              | (rcases hHeld with ⟨g0, g1, g2, g3, g4, g5⟩; exact ⟨cell_next b5 g0, cell_next b5 g1, cell_next b5 g2, cell_next b5 g3, g4.kept b5, below_next b5 g5⟩)
          clear hK K
          try simp only [Act.put, List.setIfInBounds_toArray, List.set_cons_zero, List.set_cons_succ]
          refine wpAnyH_ready (rs := [7]) (by kernel_rfl) (by simp) ?_
          refine AllReadyH.cons (o := { dst := some 56, op := Op.call { callee := Callee.value (Operand.func 34), args := #[Operand.tmp 51, Operand.tmp 52, Operand.tmp 55], argTypes := #[35, 66, 4] }, type := 3, pos := "ref.go:81", after := #[{ on := 2, ground := Ground.data }, { on := 3, ground := Ground.data }, { on := 6, ground := Ground.data }, { on := 6, ground := Ground.chain }], guard := none }) rfl (fun K hK => ?_) AllReadyH.nil
          go_simp
          (with_reducible refine (DS.out _ _ _ hHeld.2.2.2.2.2 hHeld.2.2.2.2.1).mono ?_)
          rintro e w5 ⟨rfl, b5⟩
          try go_wp2_with fail
          refine hK.out _ _ ?_ (fun hHeld => ?_)
          · first
              | (rcases hHeld with ⟨g0, g1, g2, g3, g4, g5⟩; exact ⟨cell_next b5 g0, cell_next b5 g1, cell_next b5 g2, cell_next b5 g3, g4.kept b5, below_next b5 g5⟩)
          clear hK K
          try simp only [Act.put, List.setIfInBounds_toArray, List.set_cons_zero, List.set_cons_succ]
          refine wpAnyH_take (i := 8) (oi := { dst := some 10, op := Op.assign (Operand.tmp 56), type := 3, pos := "ref.go:81", after := #[{ on := 7, ground := Ground.data }, { on := 7, ground := Ground.chain }, { on := 0, ground := Ground.phase }, { on := 1, ground := Ground.phase }, { on := 2, ground := Ground.phase }, { on := 3, ground := Ground.phase }, { on := 4, ground := Ground.phase }, { on := 5, ground := Ground.phase }, { on := 6, ground := Ground.phase }, { on := 7, ground := Ground.phase }], guard := none }) (v := ?_) rfl (by kernel_rfl) (by kernel_rfl) (by kernel_rfl) (fun _ _ _ h => h) (Or.inl ⟨by kernel_rfl, ?_⟩) (by assumption) ?_
          rotate_left
          · (intro w hSw; (try dsimp only at hSw); go_simp; try with_reducible rfl)
          try simp only [Act.put, List.setIfInBounds_toArray, List.set_cons_zero, List.set_cons_succ]
          refine wpAnyH_done (by kernel_rfl) ?_ _
          have x19 := hHeld.2.2.1
          have x14 := hHeld.2.2.2.1
          have HB5 := Lib.hid hHeld.2.2.2.2.2
          have RM5 := Lib.hid (RM.out w5 HB5.out)
          have HR2 : Hid (r = if R = 2 ∧ (jh = 2 ∨ j.beg > now ∨ rm = false) then 1 else R) := by unfold Hid; rw [HE.out, HJH.out]
          obtain ⟨jb, hjb⟩ : ∃ x, x = j.beg := ⟨_, rfl⟩
          rw [← hjb] at HR2 x14
          clear b5 hHeld z11 z12 z19 z14 hjb DS AL RM HE
          by_cases c1 : R = 2
          · have d1 : (R == 2) = true := by simp [c1]
            by_cases c2 : jh = 2
            · have d2 : (jh == 2) = true := by simp [c2]
              have HE : Hid (r = 1) := by unfold Hid; rw [HR2.out, if_pos ⟨c1, .inl c2⟩]
              clear c1 c2
              go_wp2_with fail
              go_ret
              exact ⟨by rw [HE.out]; rfl, HB5.out⟩
            · have d2 : (jh == 2) = false := by simp [c2]
              by_cases c3 : jb > now
              · have d3 : decide (jb > now) = true := decide_eq_true c3
                have d3' : decide (now < jb) = true := decide_eq_true c3
                have HE : Hid (r = 1) := by unfold Hid; rw [HR2.out, if_pos ⟨c1, .inr (.inl c3)⟩]
                clear c1 c2 c3
                go_wp2_with fail
                go_ret
                exact ⟨by rw [HE.out]; rfl, HB5.out⟩
              · have d3 : decide (jb > now) = false := decide_eq_false c3
                have d3' : decide (now < jb) = false := decide_eq_false c3
                cases rm with
                | false =>
                  have HE : Hid (r = 1) := by unfold Hid; rw [HR2.out, if_pos ⟨c1, .inr (.inr rfl)⟩]
                  clear c1 c2 c3
                  go_wp2_with fail
                  refine RM5.out.mono ?_; rintro e w6 ⟨rfl, b6⟩
                  have HB6 := Lib.hid (below_next b6 HB5.out)
                  clear b6 RM5
                  go_wp2_with fail
                  go_ret
                  exact ⟨by rw [HE.out]; rfl, HB6.out⟩
                | true =>
                  have HE : Hid (r = R) := by unfold Hid; rw [HR2.out, if_neg (by rintro ⟨_, h | h | h⟩; exact c2 h; exact c3 h; cases h)]
                  clear c1 c2 c3
                  go_wp2_with fail
                  refine RM5.out.mono ?_; rintro e w6 ⟨rfl, b6⟩
                  have HB6 := Lib.hid (below_next b6 HB5.out)
                  clear b6 RM5
                  go_wp2_with fail
                  go_ret
                  exact ⟨by rw [HE.out]; rfl, HB6.out⟩
          · have d1 : (R == 2) = false := by simp [c1]
            have HE : Hid (r = R) := by unfold Hid; rw [HR2.out, if_neg (fun h => c1 h.1)]
            clear c1
            go_wp2_with fail
            go_ret
            exact ⟨by rw [HE.out]; rfl, HB5.out⟩
end

section
open Go Go.RowKit Go.Lib
theorem findJ_nth {l : List Jb} (hok : okJs l = true) {i : Nat} (h : i < l.length) : findJ l (i + 1) = some l[i] := by
  unfold findJ; rw [if_pos ⟨hok, by omega⟩, Nat.add_sub_cancel, List.getElem?_eq_getElem h]
theorem SayJ_nth {l : List Jb} (hok : okJs l = true) {i : Nat} (h : i < l.length) (now : Int) : SayJ l (i + 1) now = sayJ l l[i] now := by
  unfold SayJ; rw [findJ_nth hok h]
set_option maxRecDepth 100000 in
set_option maxHeartbeats 4000000 in
theorem rList_any (v : Value) (l : List Jb) (now what : Int) (w : World) (h : JRw w v l) :
    Calls Try.prog 25 #[v, .int .i64 now, .int .i64 what] w fun e w' => (∃ v', e = .returned v' ∧ UOwn w' w.heap.size v' (listJ l now what)) ∧ Below w.heap.size w w' := by
  obtain ⟨i0, hi0, hz0, hz1, hz2⟩ := info_parts Try.infoU32
  have CK := Lib.hid (rcheck14_any v l w h)
  have HL := Lib.hid h
  have hlen := h.len
  obtain ⟨a, c, rfl⟩ := h.row.slice
  obtain ⟨N, hN⟩ : ∃ N, N = l.length := ⟨_, rfl⟩
  have SJ : Hid (∀ (id : Nat) (w1 : World), id < 4294967296 → Below w.heap.size w w1 → Calls Try.prog 21 #[.slice a N c, .int .u32 (id : Nat), .int .i64 now] w1 fun e w' => e = .returned (.int .i64 (SayJ l id now)) ∧ Below w1.heap.size w1 w') := fun id w1 h32 hb => by
    rw [hN]; exact rSay_any _ l id now w1 (h.kept hb) h32
  rw [← hN] at CK hlen ⊢
  have HN := Lib.hid hN
  clear h hN
  cases hck : okJs l
  · have q1 : (chkJ l == 0) = false := by rw [notJs_chk hck]; rfl
    have HE : Hid (listJ l now what = []) := by unfold Hid listJ; rw [hck, if_neg (by simp)]
    generalize chkJ l = C0 at *
    clear SJ
    go_enter Try.func25, Try.ntmps25
    go_wp2_with fail
    refine CK.out.mono ?_; rintro e w1 ⟨rfl, hw⟩
    replace hw := hw.symm; subst hw
    cases hd : decide ((0 : Int) < (N : Int)) with
    | false =>
      have hd' : decide (0 < N) = false := by simpa using hd
      go_wp2_with fail
      refine wp_loop_rounds 1 ?_; rw [rounds_succ]
      go_wp2_with fail
      go_ret
      refine ⟨⟨_, rfl, ?_⟩, Below.refl _ _⟩
      rw [HE.out]; exact World.ownsRow_nil _ _ _ _
    | true =>
      have hd' : decide (0 < N) = true := by simpa using hd
      go_wp2_with fail
      refine wp_loop_rounds 1 ?_; rw [rounds_succ]
      go_wp2_with fail
      go_ret
      refine ⟨⟨_, rfl, ?_⟩, Below.refl _ _⟩
      rw [HE.out]; exact World.ownsRow_nil _ _ _ _
  · have q1 : (chkJ l == 0) = true := by rw [okJs_chk hck]; rfl
    have HE : Hid (listJ l now what = saysL l l now what) := by unfold Hid listJ; rw [hck, if_pos rfl]
    have HCK := Lib.hid hck
    generalize chkJ l = C0 at *
    go_enter Try.func25, Try.ntmps25
    go_wp2_with fail
    refine CK.out.mono ?_; rintro e w1 ⟨rfl, hw⟩
    replace hw := hw.symm; subst hw
    clear CK hck
    go_wp2_with fail
    go_loopw [7, 9, 10] (fun sv iv _ wr => ∃ i : Nat, i ≤ N ∧ iv = .int .i64 (i : Nat) ∧ Hid (wr.ownsRow w.heap.size 23 1 sv (saysL l (l.take i) now what).length (uL (saysL l (l.take i) now what))) ∧ Hid (Below w.heap.size w wr)) (fun _ iv _ _ => N - (RowKit.intOf iv).toNat)
    case atStart => exact ⟨0, Nat.zero_le _, rfl, World.ownsRow_nil _ _ _ _, Below.refl _ _⟩
    case round =>
      obtain ⟨i, hi, rfl, HO, HB⟩ := hrel
      by_cases hlt : i < N
      · have d1 : decide ((i : Int) < (N : Int)) = true := decide_eq_true (by omega)
        have d1' : decide (i < N) = true := decide_eq_true hlt
        have hii : (i : Int) < (N : Int) := by omega
        have hik : i < l.length := by rw [← HN.out]; exact hlt
        have HT : Hid (saysL l (l.take (i + 1)) now what = saysL l (l.take i) now what ++ if sayJ l l[i] now = what then [l[i].id] else []) := saysL_take l now what hik
        have hid : l[i].id = i + 1 := (okJs_iff.1 HCK.out i hik).1
        have hS1 : SayJ l (i + 1) now = sayJ l l[i] now := SayJ_nth HCK.out hik now
        rw [← hS1, hid] at HT
        have C := Lib.hid (SJ.out (i + 1) wr (by omega) HB.out)
        have w32 : IntKind.u32.wrap ((i : Int) + 1) = ((i + 1 : Nat) : Int) := by rw [show ((i : Int) + 1) = ((i + 1 : Nat) : Int) by omega]; exact Int.emod_eq_of_lt (by omega) (by show _ < (4294967296 : Int); omega)
        obtain ⟨S, hS⟩ : ∃ S, S = SayJ l (i + 1) now := ⟨_, rfl⟩
        rw [← hS] at C HT
        have HLN : Hid ((saysL l (l.take i) now what).length ≤ i) := saysL_len l now what i
        obtain ⟨L, hL⟩ : ∃ L, L = (saysL l (l.take i) now what).length := ⟨_, rfl⟩
        have HLL := Lib.hid hL
        have hLi : L ≤ i := by rw [hL]; exact HLN.out
        rw [← hL] at HO
        obtain ⟨I1, hI1⟩ : ∃ x, x = i + 1 := ⟨_, rfl⟩
        rw [← hI1] at w32 C HT
        have HI1 := Lib.hid hI1
        clear hL HLN hS hS1 hid hI1
        by_cases hs : S = what
        · have d2 : (S == what) = true := by simp [hs]
          have HT2 : Hid (saysL l (l.take I1) now what = saysL l (l.take i) now what ++ [I1]) := by unfold Hid; rw [HT.out, if_pos hs]
          clear HT hs
          go_wp2_with fail
          refine C.out.mono ?_; rintro e w5 ⟨rfl, b5⟩
          have HO5 := Lib.hid (own_older HO.out b5)
          have HB5 := Lib.hid (below_next b5 HB.out)
          clear b5 C HO
          go_wp2_with (first | (at_builtin; refine wpList_app rfl _ _ 45 rfl w.heap.size 23 i0 _ 1 4 Try.underlying45 hi0 hz0 hz1 hz2 rfl (by decide) _ L (uL (saysL l (l.take i) now what)) rfl (HO5.out.alloc _) _ 1 (uV I1) rfl (src_u8 (x := I1) (Blk.new _ _ _)) (uV_one8 I1) (by unfold maxLen; omega) (by omega) (by have := HB5.out.size; simp; omega) ?_; intro v8 w8 hown8 hgrow8 hat8; have HB8 := Lib.hid ((HB5.out.alloc HB5.out.size _).grown hgrow8 (by have := HB5.out.size; simp; omega) (fun j hj => (own_ge HO5.out hj).1)); obtain ⟨a8, c8, rfl⟩ := own_slice hown8; have HO8 := Lib.hid hown8; clear hown8 hgrow8 hat8))
          go_wp2_with fail
          go_roundw
          case rel =>
            refine ⟨i + 1, hlt, by go_num, ?_, HB8.out⟩
            unfold Hid
            have h8 := HO8.out
            rw [← HI1.out, HT2.out, List.length_append, ← HLL.out]
            unfold uL at h8 ⊢
            rw [List.flatMap_append]
            simpa using h8
          case measure => simp [RowKit.intOf]; omega
        · have d2 : (S == what) = false := by simp [hs]
          have HT2 : Hid (saysL l (l.take I1) now what = saysL l (l.take i) now what) := by unfold Hid; rw [HT.out, if_neg hs, List.append_nil]
          clear HT hs
          go_wp2_with fail
          refine C.out.mono ?_; rintro e w5 ⟨rfl, b5⟩
          have HO5 := Lib.hid (own_older HO.out b5)
          have HB5 := Lib.hid (below_next b5 HB.out)
          clear b5 C HO
          go_wp2_with fail
          go_roundw
          case rel =>
            refine ⟨i + 1, hlt, by go_num, ?_, HB5.out⟩
            unfold Hid
            rw [← HI1.out, HT2.out, ← HLL.out]; exact HO5.out
          case measure => simp [RowKit.intOf]; omega
      · have d1 : decide ((i : Int) < (N : Int)) = false := decide_eq_false (by omega)
        have d1' : decide (i < N) = false := decide_eq_false hlt
        have HOE : Hid (UOwn wr w.heap.size u7 (listJ l now what)) := by
          have h := HO.out
          rw [List.take_of_length_le (by have := HN.out; omega)] at h
          unfold Hid; rw [HE.out]; exact h
        clear HO
        go_wp2_with fail
        go_ret
        exact ⟨⟨_, rfl, HOE.out⟩, HB.out⟩
end

end Go.Proofs.Ytfabjlhepadkpaa
