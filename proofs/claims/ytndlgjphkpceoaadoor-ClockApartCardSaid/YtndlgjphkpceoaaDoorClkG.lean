/-
  gangerref07.cut: at any text.
-/
import Derived.Test.YtndlgjphkpceoaaDoorClkE
namespace Go.Proofs.YtndlgjphkpceoaaDoor
open Go Go.RowKit Go.Lib
set_option linter.unusedVariables false

/-- What cut knows behind i signs: the parts, the signs, the begin of the part that goes on. -/
structure CutSt (l : Bs) (P : List Bs) (G : Bs) (f i : Nat) : Prop where
  all : cutW l = (P ++ (cutW (l.drop f)).1, G ++ (cutW (l.drop f)).2)
  le : f ≤ i
  len : i ≤ l.length
  no : ∀ j c, f ≤ j → j < i → l[j]? = some c → isSep c = false
  gl : G.length = P.length
  pl : P.length ≤ f
theorem CutSt.start (l : Bs) : CutSt l [] [] 0 0 := ⟨by simp, Nat.le_refl _, Nat.zero_le _, fun j c _ h => absurd h (Nat.not_lt_zero _), rfl, Nat.le_refl _⟩
theorem CutSt.on {l : Bs} {P : List Bs} {G : Bs} {f i : Nat} (h : CutSt l P G f i) {c : UInt8} (hc : l[i]? = some c) (hs : isSep c = false) : CutSt l P G f (i + 1) := by
  refine ⟨h.all, by have := h.le; omega, ?_, fun j c' hj hlt hc' => ?_, h.gl, h.pl⟩
  · have := (List.getElem?_eq_some_iff.1 hc).1; omega
  · by_cases e : j = i
    · subst e; rw [hc] at hc'; cases hc'; exact hs
    · exact h.no j c' hj (by omega) hc'
theorem CutSt.word_free {l : Bs} {P : List Bs} {G : Bs} {f i : Nat} (h : CutSt l P G f i) : free ((l.drop f).take (i - f)) := by
  intro c hc
  obtain ⟨k, hk⟩ := List.mem_iff_getElem?.1 hc
  rw [List.getElem?_take] at hk
  split at hk
  · rw [List.getElem?_drop] at hk
    exact h.no (f + k) c (by omega) (by omega) hk
  · cases hk
theorem CutSt.cut {l : Bs} {P : List Bs} {G : Bs} {f i : Nat} (h : CutSt l P G f i) {c : UInt8} (hc : l[i]? = some c) (hs : isSep c = true) : CutSt l (P ++ [(l.drop f).take (i - f)]) (G ++ [c]) (i + 1) (i + 1) := by
  have hlt := (List.getElem?_eq_some_iff.1 hc).1
  have hle := h.le
  have hsp : l.drop f = (l.drop f).take (i - f) ++ c :: l.drop (i + 1) := by
    conv => lhs; rw [← List.take_append_drop (i - f) (l.drop f)]
    congr 1
    rw [List.drop_drop, show f + (i - f) = i by omega, List.drop_eq_getElem_cons hlt]
    congr 1
    rw [List.getElem?_eq_getElem hlt] at hc
    exact Option.some.inj hc
  have hcut := cut_free_app h.word_free c hs (l.drop (i + 1))
  rw [← hsp] at hcut
  refine ⟨?_, Nat.le_refl _, by omega, fun j c' h1 h2 => by omega, by simp [h.gl], by have := h.pl; simp; omega⟩
  rw [h.all, hcut]
  simp
theorem CutSt.done {l : Bs} {P : List Bs} {G : Bs} {f : Nat} (h : CutSt l P G f l.length) : cutW l = (P ++ [l.drop f], G) := by
  have hf := h.word_free
  rw [List.take_of_length_le (by simp)] at hf
  rw [h.all, cut_free_one hf]; simp

theorem extract_str (s : ByteArray) (a b : Nat) : s.extract a b = ⟨((s.data.toList.drop a).take (b - a)).toArray⟩ := by
  apply ByteArray.ext
  apply Array.toList_inj.1
  rw [extract_data]
theorem strs_snoc (P : List Bs) (x : Bs) : strs (P ++ [x]) = strs P ++ [.string ⟨x.toArray⟩] := by simp [strs]
theorem strs_len (P : List Bs) : (strs P).length = P.length := by simp [strs]
theorem words_owned {w : World} {base : Nat} {v : Value} {ws : List Bs} {n : Nat} (hn : n = ws.length) (h0 : 0 < n) (h : w.ownsRow base 9 1 v n (strs ws)) : WordsR w v ws := by
  obtain ⟨_, ⟨h1, h2⟩ | ⟨g, cap, cur, h1, _, hg, _, _, _, ht⟩⟩ := h
  · omega
  · subst h1
    exact words_of hn hg (by rw [Nat.mul_one] at ht; exact ht)

set_option maxHeartbeats 2000000 in
theorem refCut_any (s : ByteArray) (w : World) (hs : s.size < 4294967281) :
    Calls Tryd.prog 20 #[.string s] w fun e w' => ∃ v, e = .returned (.tuple #[v, .string ⟨(cutW s.data.toList).2.toArray⟩]) ∧ WordsR w' v (cutW s.data.toList).1 ∧ Below w.heap.size w w' := by
  obtain ⟨i0, hi, hz0, hz1, hz2⟩ := info_parts Tryd.infoStr
  have hlen : s.data.toList.length = s.size := Array.length_toList
  have H0 := Lib.hid (CutSt.start s.data.toList)
  have HD := Lib.hid (fun P G f => @CutSt.done s.data.toList P G f)
  have HO := Lib.hid (fun P G f i h c => @CutSt.on s.data.toList P G f i h c)
  have HC := Lib.hid (fun P G f i h c => @CutSt.cut s.data.toList P G f i h c)
  have HX := Lib.hid (fun a b => extract_str s a b)
  have HAT : Hid (∀ pos (h : pos < s.size), s.data.toList[pos]? = some (s[pos]'h)) := fun pos h => at_list h
  rw [hlen] at HD
  generalize s.data.toList = l at *
  generalize cutW l = R at *
  go_enter Tryd.func20, Tryd.ntmps20
  go_wp2_with fail
  go_loopw [4, 5, 6, 7] (fun o g f i wr => ∃ (P : List Bs) (G : Bs) (fr pos : Nat), pos ≤ s.size ∧ i = .int .i64 pos ∧ f = .int .i64 fr ∧ g = .string ⟨G.toArray⟩ ∧ Hid (CutSt l P G fr pos) ∧ wr.ownsRow w.heap.size 9 1 o P.length (strs P) ∧ Below w.heap.size w wr)
    (fun _ _ _ i _ => s.size - (RowKit.intOf i).toNat)
  case atStart => exact ⟨[], [], 0, 0, Nat.zero_le _, rfl, rfl, rfl, H0, World.ownsRow_nil _ _ _ _, Below.refl _ _⟩
  case round =>
    obtain ⟨P, G, fr, pos, hps, rfl, rfl, rfl, hst, hown, hB⟩ := hrel
    have HB := Lib.hid hB
    have HW := Lib.hid hown
    have hz : w.heap.size ≤ wr.heap.size := hB.size
    have hfp := hst.out.le
    have hpl := hst.out.pl
    have hgl := hst.out.gl
    have hGs : (⟨G.toArray⟩ : ByteArray).size = P.length := by show G.toArray.size = _; simp [hgl]
    clear hB hown hgl
    by_cases hp : pos < s.size
    · have hp' : decide (pos < s.size) = true := decide_eq_true hp
      have hpi : (pos : Int) < s.size := by omega
      have hc := HAT.out pos hp
      have hsl := Lib.hid (HX.out fr pos)
      have hs1 := Lib.hid (HX.out pos (pos + 1))
      have hon := Lib.hid (fun h => HO.out P G fr pos hst.out _ hc h)
      have hcu := Lib.hid (fun h => HC.out P G fr pos hst.out _ hc h)
      have hone : Hid ((l.drop pos).take (pos + 1 - pos) = [s[pos]'hp]) := by
        have hlt := (List.getElem?_eq_some_iff.1 hc).1
        have he := (List.getElem?_eq_some_iff.1 hc).2
        unfold Hid
        rw [List.drop_eq_getElem_cons hlt, he, show pos + 1 - pos = 1 by omega]; rfl
      have hex1 : (s.extract fr pos).size ≤ 4294967281 := by rw [hsl.out]; show (List.toArray _).size ≤ _; simp; omega
      have hsep : Hid (isSep (s[pos]'hp) = ((s[pos]'hp) == 45 || (s[pos]'hp) == 58)) := rfl
      clear hc
      have hs1s : (s.extract pos (pos + 1)).size = 1 := by rw [hs1.out, hone.out]; rfl
      have hcw : ∀ W : World, (Instr.slice 9 (.string s) (some (.int .i64 (pos : Int))) (some (.int .i64 ((pos : Int) + 1))) none).run Tryd.prog W = .ok (.string (s.extract pos (pos + 1))) W := fun W => by
        have := run_slice_string (P := Tryd.prog) (w := W) (t := 9) (s := s) (k := .i64) (k' := .i64) (i := (pos : Int)) (j := (pos : Int) + 1) Tryd.underlying9 (by omega) (by omega) (by omega)
        rw [this]
        rw [show (pos : Int).toNat = pos by omega, show ((pos : Int) + 1).toNat = pos + 1 by omega]
      have hu : ∀ k : UInt8, (s[pos]'hp) ≠ k → (((s[pos]'hp).toNat : Int) == (k.toNat : Int)) = false := fun k h => by
        rw [beq_eq_false_iff_ne]
        intro e
        exact h (UInt8.toNat_inj.1 (by omega))
      by_cases h45 : (s[pos]'hp) = 45
      · have t1 : (((s[pos]'hp).toNat : Int) == 45) = true := by rw [h45]; rfl
        have hC := Lib.hid (hcu.out (by rw [hsep.out, h45]; rfl))
        clear hcu hon hsep h45 hu
        go_wp2_with (at_builtin; refine wpList_append_own _ rfl _ _ 41 rfl w.heap.size 9 i0 _ 1 16 Tryd.underlying41 hi hz0 hz1 hz2 rfl (by decide) _ P.length _ rfl (World.ownsRow.alloc HW.out _) ⟨wr.heap.size, 0, none⟩ 1 1 [.string (s.extract fr pos)] rfl rfl (news_alloc _ [.string (s.extract fr pos)] _) (by simp [Value.oneCell']) (by unfold maxLen; omega) (by omega) (by simp; omega) ?_; intro v4 w4 hown4 hgrow4 _; have HO4 := Lib.hid hown4; have HG4 := Lib.hid hgrow4; clear hown4 hgrow4)
        go_roundw
        case rel =>
          refine ⟨P ++ [(l.drop fr).take (pos - fr)], G ++ [s[pos]'hp], pos + 1, pos + 1, hp, by go_num, by go_num, ?_, hC, ?_, (HB.out.alloc hz _).grown HG4.out (by simp; omega) (fun j hj => (HW.out.lt j hj).1)⟩
          · rw [hs1.out, hone.out]; exact congrArg Value.string (by apply ByteArray.ext; simp)
          · rw [strs_snoc, List.length_append]; have := HO4.out; rw [hsl.out] at this; exact this
        case measure => simp [RowKit.intOf]; omega
      · have t1 : (((s[pos]'hp).toNat : Int) == 45) = false := hu 45 h45
        by_cases h58 : (s[pos]'hp) = 58
        · have t2 : (((s[pos]'hp).toNat : Int) == 58) = true := by rw [h58]; rfl
          have hC := Lib.hid (hcu.out (by rw [hsep.out, h58]; rfl))
          clear hcu hon hsep h45 h58 hu
          go_wp2_with (at_builtin; refine wpList_append_own _ rfl _ _ 41 rfl w.heap.size 9 i0 _ 1 16 Tryd.underlying41 hi hz0 hz1 hz2 rfl (by decide) _ P.length _ rfl (World.ownsRow.alloc HW.out _) ⟨wr.heap.size, 0, none⟩ 1 1 [.string (s.extract fr pos)] rfl rfl (news_alloc _ [.string (s.extract fr pos)] _) (by simp [Value.oneCell']) (by unfold maxLen; omega) (by omega) (by simp; omega) ?_; intro v4 w4 hown4 hgrow4 _; have HO4 := Lib.hid hown4; have HG4 := Lib.hid hgrow4; clear hown4 hgrow4)
          go_roundw
          case rel =>
            refine ⟨P ++ [(l.drop fr).take (pos - fr)], G ++ [s[pos]'hp], pos + 1, pos + 1, hp, by go_num, by go_num, ?_, hC, ?_, (HB.out.alloc hz _).grown HG4.out (by simp; omega) (fun j hj => (HW.out.lt j hj).1)⟩
            · rw [hs1.out, hone.out]; exact congrArg Value.string (by apply ByteArray.ext; simp)
            · rw [strs_snoc, List.length_append]; have := HO4.out; rw [hsl.out] at this; exact this
          case measure => simp [RowKit.intOf]; omega
        · have t2 : (((s[pos]'hp).toNat : Int) == 58) = false := hu 58 h58
          have hC := Lib.hid (hon.out (by rw [hsep.out]; simp [h45, h58]))
          clear hcu hon hsep h45 h58 hu
          go_wp2_with fail
          go_roundw
          case rel => exact ⟨P, G, fr, pos + 1, hp, by go_num, rfl, rfl, hC, HW.out, HB.out⟩
          case measure => simp [RowKit.intOf]; omega
    · have hpe : pos = s.size := by omega
      have hp' : decide (pos < s.size) = false := decide_eq_false hp
      have hpi : ¬ (pos : Int) < s.size := by omega
      have hst' := hst.out
      rw [hpe] at hst'
      have hR := Lib.hid (HD.out P G fr hst')
      have hsl := Lib.hid (HX.out fr s.size)
      have htk : Hid ((l.drop fr).take (s.size - fr) = l.drop fr) := by unfold Hid; rw [List.take_of_length_le (by simp; omega)]
      have hfs : (fr : Int) ≤ s.size := by omega
      clear hst'
      go_wp2_with (at_builtin; refine wpList_append_own _ rfl _ _ 41 rfl w.heap.size 9 i0 _ 1 16 Tryd.underlying41 hi hz0 hz1 hz2 rfl (by decide) _ P.length _ rfl (World.ownsRow.alloc HW.out _) ⟨wr.heap.size, 0, none⟩ 1 1 [.string (s.extract fr s.size)] rfl rfl (news_alloc _ [.string (s.extract fr s.size)] _) (by simp [Value.oneCell']) (by unfold maxLen; omega) (by omega) (by simp; omega) ?_; intro v4 w4 hown4 hgrow4 _; have HO4 := Lib.hid hown4; have HG4 := Lib.hid hgrow4; clear hown4 hgrow4)
      go_ret2
      refine ⟨v4, ?_, ?_, (HB.out.alloc hz _).grown HG4.out (by simp; omega) (fun j hj => (HW.out.lt j hj).1)⟩
      · rw [hR.out]; rfl
      · rw [hR.out]
        refine words_owned (n := P.length + 1) (base := w.heap.size) (by simp) (by omega) ?_
        rw [strs_snoc]; have := HO4.out; rw [hsl.out, htk.out] at this; exact this
end Go.Proofs.YtndlgjphkpceoaaDoor
