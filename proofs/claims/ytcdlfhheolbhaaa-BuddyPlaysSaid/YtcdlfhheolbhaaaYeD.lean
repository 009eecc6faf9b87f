/-
  Who holds a worker; Fail, Heal.
-/
import Derived.Test.YtcdlfhheolbhaaaYeC
namespace Go.Proofs.Ytcdlfhheolbhaaa
open Go Go.RowKit Go.Lib
set_option linter.unusedVariables false

theorem closH_any (pB : Nat) (b : Bk) (x : Int) (h1 : b.1 < 4096) (ho : b.2 ≤ 10) (w : World) (h : w.cell? ⟨pB, 0, none⟩ = some (.int .i64 x)) :
    Calls Try.prog 50 #[bkV b, .pointer (some ⟨pB, 0, none⟩)] w fun e w' => e = .returned (.bool (inI b x)) ∧ Below w.heap.size w w' := by
  have C : Hid (∀ w, Calls Try.prog 51 #[bkV b, .int .i64 x] w fun e w' => e = .returned (.bool (inI b x)) ∧ Below w.heap.size w w') := fun w => contains_any b x h1 ho w
  generalize inI b x = f at *
  have hlt := World.block_lt_of_cell? w _ h
  have h2 : ∀ cs, (w.alloc cs).cell? ⟨pB, 0, none⟩ = some (.int .i64 x) := fun cs => Lib.cell?_alloc_some _ h
  obtain ⟨s, o⟩ := b
  have ebk : bkV (s, o) = .agg #[.int .i64 (s : Int), .int .i64 (o : Int)] := rfl
  rw [ebk] at C ⊢
  clear ebk
  go_enter Try.func50, Try.ntmps50
  go_wp2_with fail
  refine (C.out _).mono ?_; rintro e w1 ⟨rfl, b1⟩
  go_wp2_with fail
  go_ret
  exact ⟨rfl, by
    first
      | exact b1
      | exact ((Below.refl _ _).alloc (Nat.le_refl _) _).trans (b1.mono (by simp))⟩
set_option maxHeartbeats 1000000 in
theorem idxB_row (bb off c pB : Nat) (x : Int) (l : List Bk) (hok : ∀ b ∈ l, b.1 < 4096 ∧ b.2 ≤ 10) (w : World) (hn : l.length ≤ 1024) (hc : BCells w bb off l) (hp : w.cell? ⟨pB, 0, none⟩ = some (.int .i64 x)) :
    Calls Try.prog 49 #[.slice (some ⟨bb, off, none⟩) l.length c, .func (.func 50) #[] #[.pointer (some ⟨pB, 0, none⟩)]] w
      fun e w' => e = .returned (.int .i64 (idxG (fun b : Bk => inI b x) l)) ∧ Below w.heap.size w w' := by
  have HC := Lib.hid hc
  have HP := Lib.hid hp
  have HOK := Lib.hid hok
  clear hc hp hok
  go_enter Try.func49, Try.ntmps49
  go_wp2_with fail
  go_loopw [8] (fun i wr => ∃ k : Nat, k ≤ l.length ∧ i = .int .i64 k ∧ Hid (∀ q (hq : q < l.length), q < k → inI l[q] x = false) ∧ Below w.heap.size w wr) (fun i _ => l.length - (RowKit.intOf i).toNat)
  case atStart => exact ⟨0, Nat.zero_le _, rfl, fun q _ h => by omega, Below.refl _ _⟩
  case round =>
    obtain ⟨k, hk, rfl, hq0, hB⟩ := hrel
    by_cases hlt : k < l.length
    · have hlt' : decide (k < l.length) = true := decide_eq_true hlt
      obtain ⟨c0, c1⟩ := HC.out.at hB hlt
      have hb := HOK.out _ (List.getElem_mem hlt)
      have HK := Lib.hid (closH_any pB l[k] x hb.1 hb.2 wr (cell_next hB HP.out))
      obtain ⟨b, hx⟩ : ∃ b, b = l[k] := ⟨_, rfl⟩
      have HX := Lib.hid hx
      rw [← hx] at c0 c1 HK
      clear hx hb
      obtain ⟨s, o⟩ := b
      dsimp only at c0 c1
      cases hf : inI (s, o) x
      · rw [hf] at HK
        have HF := Lib.hid hf
        clear hf
        go_wp2_with fail
        refine HK.out.mono ?_; rintro e w2 ⟨rfl, b2⟩
        go_wp2_with fail
        go_roundw
        case rel =>
          refine ⟨k + 1, hlt, by go_num, fun q hq h => ?_, below_next b2 hB⟩
          rcases Nat.lt_or_ge q k with h1 | h1
          · exact hq0.out q hq h1
          · obtain rfl : q = k := by omega
            rw [← HX.out]; exact HF.out
        case measure => simp [RowKit.intOf]; omega
      · rw [hf] at HK
        have E : Hid (idxG (fun b : Bk => inI b x) l = k) := idxG_at hlt hq0.out (by rw [← HX.out]; exact hf)
        clear hf
        go_wp2_with fail
        refine HK.out.mono ?_; rintro e w2 ⟨rfl, b2⟩
        go_wp2_with fail
        go_ret
        rw [E.out]; exact ⟨rfl, below_next b2 hB⟩
    · obtain rfl : k = l.length := by omega
      have hlt' : decide (l.length < l.length) = false := decide_eq_false (by omega)
      have E : Hid (idxG (fun b : Bk => inI b x) l = -1) := idxG_none fun q hq => hq0.out q hq hq
      go_wp2_with fail
      go_ret
      rw [E.out]; exact ⟨rfl, hB⟩
theorem idxB_nil (a : Option Addr) (c : Nat) (f : Value) (w : World) :
    Calls Try.prog 49 #[.slice a 0 c, f] w fun e w' => e = .returned (.int .i64 (-1)) ∧ Below w.heap.size w w' := by
  go_enter Try.func49, Try.ntmps49
  go_wp2_with fail
  refine wp_loop_rounds 1 ?_
  rw [rounds_succ]
  go_wp2_with fail
  go_ret
  exact ⟨rfl, Below.refl _ _⟩
theorem idxG_at_iff {α : Type} {g : α → Bool} {l : List α} : (∃ k : Nat, ∃ hk : k < l.length, idxG g l = k ∧ g l[k] = true) ∨ (idxG g l = -1 ∧ ∀ x ∈ l, g x = false) := by
  unfold idxG
  cases h : l.findIdx? g with
  | none =>
    rw [List.findIdx?_eq_none_iff] at h
    exact .inr ⟨rfl, fun x hx => h x hx⟩
  | some i =>
    rw [List.findIdx?_eq_some_iff_getElem] at h
    obtain ⟨hi, h1, _⟩ := h
    exact .inl ⟨i, hi, rfl, h1⟩

inductive HeldR (tk : List Bk) (x : Int) : Bk → Bool → Prop
  | no (h : ∀ b ∈ tk, inI b x = false) : HeldR tk x (0, 0) false
  | yes (b : Bk) (hb : b ∈ tk) (hx : inI b x = true) : HeldR tk x b true
def HeldPost (tk : List Bk) (x : Int) (w : World) (e : Ending) (w' : World) : Prop := ∃ b f, e = .returned (.tuple #[bkV b, .bool f]) ∧ HeldR tk x b f ∧ Below w.heap.size w w'
set_option maxHeartbeats 2000000 in
theorem Held_any (y : Nat) (own : Nat → Prop) (n : Nat) (op : Opn) (tk : List Bk) (fl : List Nat) (x : Int) (w : World) (hl : tk.length ≤ 1024) (hok : ∀ b ∈ tk, b.1 < 4096 ∧ b.2 ≤ 10) (hY : YI w y own n op tk fl) :
    Calls Try.prog 25 #[.pointer (some ⟨y, 0, none⟩), .int .i64 x] w fun e w' => HeldPost tk x w e w' := by
  obtain ⟨v, hv, hrow⟩ := hY.tk
  have hyl := hY.lt
  obtain ⟨gP, hgP⟩ : ∃ gP, gP = w.heap.size := ⟨_, rfl⟩
  obtain ⟨w0, hw0⟩ : ∃ w0, w0 = (w.alloc (.cells #[.int .i64 x] 3)).alloc (.cells #[.int .i64 0, .int .i64 0] 45) := ⟨_, rfl⟩
  have hB0 : Below w.heap.size w w0 := by rw [hw0]; exact ((Below.refl _ _).alloc (Nat.le_refl _) _).alloc (by simp) _
  have HP : Blk w0 gP #[.int .i64 x] 3 := by rw [hw0, hgP]; exact (Blk.new _ _ _).old _
  have HR : Hid (Blk w0 (gP + 1) #[.int .i64 0, .int .i64 0] 45) := by unfold Hid; rw [hw0, hgP]; exact Blk.fresh _ _ _ _ (by simp)
  have hr0 := own_older hrow hB0
  have HB0 := Lib.hid hB0
  have IX : Hid (Calls Try.prog 49 #[v, .func (.func 50) #[] #[.pointer (some ⟨gP, 0, none⟩)]] w0
      fun e w' => e = .returned (.int .i64 (idxG (fun b : Bk => inI b x) tk)) ∧ Below w0.heap.size w0 w') := by
    rcases brow_of_own hr0 with ⟨rfl, a, c, rfl, _⟩ | ⟨b, off, c, rfl, _, _, _, hc⟩
    · exact idxB_nil a c _ w0
    · exact idxB_row b off c gP x tk hok w0 hl hc (by have := HP.cell 0; simpa using this)
  have HI := Lib.hid (@idxG_at_iff Bk (fun b : Bk => inI b x) tk)
  generalize idxG (fun b : Bk => inI b x) tk = r at *
  have hmf : ∀ (fn : Fn) (first cap : Array Value) (w : World), (Instr.makeFunc fn first cap).run Try.prog w = .ok (.func fn first cap) w := fun _ _ _ _ => rfl
  have hv0 := cell_next hB0 hv
  have hal : ∀ C1 T1 C2 T2, ((w.alloc (.cells C1 T1)).alloc (.cells C2 T2)).cell? ⟨y, 12, none⟩ = some v := fun C1 T1 C2 T2 => cell_next (w2 := (w.alloc (.cells C1 T1)).alloc (.cells C2 T2)) (((Below.refl _ _).alloc (Nat.le_refl _) _).alloc (by simp) _) hv
  have HRow := Lib.hid hr0
  have HGP := Lib.hid hgP
  clear hY hB0 HP hr0 hrow hok hv
  go_enter Try.func25, Try.ntmps25
  go_wp2_with fail
  rw [← hw0, ← hgP]
  clear hw0 hgP hal
  refine IX.out.mono ?_; rintro e w1 ⟨rfl, b1⟩
  have HR1 := HR.out.kept b1
  have f0 := HR1.cell 0
  have f1 := HR1.cell 1
  have ff := HR1.free
  simp at f0 f1
  have hBB : Below w.heap.size w w1 := HB0.out.trans (b1.mono HB0.out.size)
  have hv1 := cell_next b1 hv0
  have hr1 := own_older HRow.out b1
  have HBB := Lib.hid hBB
  rcases HI.out with ⟨k, hk, rfl, hx⟩ | ⟨rfl, hno⟩
  · obtain ⟨g, cap, rfl, _, _, _, _, hcell⟩ := bown_parts hr1 (by omega)
    obtain ⟨c0, c1⟩ := hcell k hk
    simp only [Nat.zero_add] at c0 c1
    have hmem : tk[k] ∈ tk := List.getElem_mem hk
    obtain ⟨⟨s, o⟩, hb⟩ : ∃ b, b = tk[k] := ⟨_, rfl⟩
    rw [← hb] at c0 c1 hx hmem
    dsimp only at c0 c1
    have HRR : Hid (HeldR tk x (s, o) true) := .yes _ hmem hx
    obtain ⟨W6, e6, z0, z1, hend⟩ := end2 (w := w) (n := w.heap.size) HR1 rfl hBB (by rw [HGP.out]; omega) (.int .i64 (s : Int)) (.int .i64 (o : Int))
    have E6 := Lib.hid e6
    have HEND := Lib.hid hend
    have hki : (k : Int) < (tk.length : Int) := by omega
    have hk1 : ¬ ((k : Int) < 0) := by omega
    have hk2 : decide ((k : Int) < 0) = false := decide_eq_false hk1
    clear e6 hend hb hcell hBB hmem hx hr1 HI HR1 b1
    go_wp2_with fail
    rw [E6.out]
    refine bodyPost_ret (v := .tuple #[bkV (s, o), .bool true]) (by simp [results, Try.results25, go_sem, z0, z1]) rfl ?_
    exact ⟨(s, o), true, rfl, HRR.out, HEND.out⟩
  · have HRR : Hid (HeldR tk x (0, 0) false) := .no hno
    obtain ⟨W6, e6, z0, z1, hend⟩ := end2 (w := w) (n := w.heap.size) HR1 rfl hBB (by rw [HGP.out]; omega) (.int .i64 0) (.int .i64 0)
    have E6 := Lib.hid e6
    have HEND := Lib.hid hend
    clear e6 hend hBB hr1 HI HR1 b1 hno
    go_wp2_with fail
    rw [E6.out]
    refine bodyPost_ret (v := .tuple #[bkV (0, 0), .bool false]) (by simp [results, Try.results25, go_sem, z0, z1]) rfl ?_
    exact ⟨(0, 0), false, rfl, HRR.out, HEND.out⟩
theorem OkY.small {n : Nat} {tk : List Bk} {fl : List Nat} (h : OkY n tk fl) : ∀ b ∈ tk, b.1 < 4096 ∧ b.2 ≤ 10 := fun b hb => ⟨by have := h.stlt hb; omega, by have := h.ord b hb; have := h.hn; omega⟩
theorem HeldR.held {tk : List Bk} {x : Nat} {b : Bk} {f : Bool} (h : HeldR tk (x : Int) b f) : f = heldB tk x := by
  cases h with
  | no h =>
    symm
    cases hh : heldB tk x
    · rfl
    · obtain ⟨b, hb, hx⟩ := heldB_iff.1 hh
      have := h b hb
      rw [(inI_nat b x).2 hx] at this; cases this
  | yes b hb hx => exact (heldB_iff.2 ⟨b, hb, (inI_nat b x).1 hx⟩).symm
end Go.Proofs.Ytcdlfhheolbhaaa
