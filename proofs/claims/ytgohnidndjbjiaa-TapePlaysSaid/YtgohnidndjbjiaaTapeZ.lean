/-
  Arguments within the form's own reach: how long each row of them may be; gangerref00's Lent, Whole and Spoil at any bytes within it. Acts of layer 19.
-/
import Derived.Test.YtgohnidndjbjiaaTapeS
import Derived.SizedLaws
namespace Go.Proofs.Ytgohnidndjbjiaa
open Go Go.ChangeShapes Go.WideShapes Go.ChangeAt Go.RowKit Go.Deep Go.Lib
set_option linter.unusedVariables false

theorem byCopyZ {w : World} {K : Nat → Prop} {v : Value} {xs : List UInt8} (h : Rd w K v (bts xs)) (hn : xs.length ≤ 140737488351232) :
    Calls Try.prog 43 #[v] w (CopyTo w xs) := by
  obtain ⟨i0, hi, hz0, hz1, hz2⟩ := info_parts Try.infoB
  have HS := Lib.hid (rd_src h)
  rw [bts_len] at HS
  obtain ⟨B, d, rfl, _⟩ := h
  go_enter Try.func43, Try.ntmps43
  go_wp2_with (at_builtin; refine wpList_app rfl _ _ 37 rfl w.heap.size 5 i0 _ 1 1 Try.underlying37 hi hz0 hz1 hz2 rfl (by decide) _ 0 _ rfl (World.ownsRow_nil _ _ _ _) _ xs.length (bts xs) rfl HS.out (bts_one xs) (by unfold maxLen; omega) (by omega) (Nat.le_refl _) ?_)
  intro v' w' hown hgr _
  have HO := Lib.hid hown
  have HG := Lib.hid hgr
  obtain ⟨A', c', rfl⟩ := owned_slice hown
  clear hown hgr
  go_wp2_with fail
  go_returns
  exact ⟨_, rfl, HO.out, (Below.refl _ w).grown HG.out (Nat.le_refl _) fun k hk => by cases hk⟩
theorem byLentZ {w : World} {K : Nat → Prop} {v : Value} {xs : List UInt8} (h : Rd w K v (bts xs)) (hn : xs.length ≤ 140737488351232) :
    Calls Try.prog 32 #[v] w (LentTo w xs) := by
  obtain ⟨i0, hi, hz0, hz1, hz2⟩ := info_parts Try.infoB
  have HC := Lib.hid (byCopyZ h (by omega))
  obtain ⟨B, d, rfl, _⟩ := h
  rw [bts_len] at *
  go_enter Try.func32, Try.ntmps32
  go_wp2_with fail
  refine HC.out.mono ?_; rintro e w1 ⟨v1, rfl, ho1, hb1⟩
  have HO1 := Lib.hid ho1
  have HB1 := Lib.hid hb1
  obtain ⟨A1, c1, rfl⟩ := owned_slice ho1
  clear ho1 hb1
  go_wp2_with (at_builtin; refine wpList_append_own _ rfl _ _ 37 rfl w.heap.size 5 i0 _ 1 1 Try.underlying37 hi hz0 hz1 hz2 rfl (by decide) _ xs.length _ rfl (owns_alloc HO1.out _) ⟨w1.heap.size, 0, none⟩ 2 2 (bts [91, 92]) rfl rfl ?q1 (bts_one _) ?q2 ?q3 ?q4 ?_)
  case q1 => exact news_alloc w1 (bts [91, 92]) 5
  case q2 => unfold maxLen; omega
  case q3 => omega
  case q4 => have := HB1.out.size; simp; omega
  intro v2 w2 ho2 hg2 _
  have HG2 := Lib.hid hg2
  obtain ⟨g, cap, rfl, hbg, hnc, hcm, hL⟩ := lent_of (by rw [bts_app]; exact ho2) rfl
  have HL := Lib.hid hL
  have hnn : xs.length ≤ cap := by omega
  unfold maxLen at hcm
  clear ho2 hg2 hL
  go_wp2_with fail
  go_returns
  refine ⟨_, rfl, HL.out, fun g' hg' => ?_, ?_⟩
  · obtain rfl : g = g' := by simpa [Value.ownBlock] using hg'
    exact hbg
  · refine (HB1.out.alloc HB1.out.size _).grown HG2.out (by have := HB1.out.size; simp; omega) fun k hk => ?_
    obtain ⟨_, ⟨hv, _⟩ | ⟨g', _, _, hv, hb', _⟩⟩ := HO1.out
    · rw [hv] at hk; cases hk
    · rw [hv] at hk; obtain rfl : g' = k := by simpa [Value.ownBlock] using hk
      exact hb'
theorem byWholeZ {w : World} {K : Nat → Prop} {v v2 : Value} {xs : List UInt8} (h : Lentd w v xs) (h2 : Rd w K v2 (bts xs)) (hn : xs.length ≤ 140737488351232) :
    Calls Try.prog 33 #[v, v2] w fun e w' => e = .returned (.bool true) ∧ w' = w := by
  have c1 := conv_bts (h.rd (K := fun _ => True) fun _ _ => trivial) 9 Try.underlying9
  have c2 := conv_bts h2 9 Try.underlying9
  obtain ⟨g, cap, cur, rfl, hB, h3, h4, h5, h6⟩ := h
  obtain ⟨B, d, rfl, _⟩ := h2
  rw [bts_len] at *
  have e1 : w.cell? ⟨g, xs.length, none⟩ = some (.int .u8 91) := by
    have : (bts (xs ++ [91, 92]))[xs.length]? = some (.int .u8 91) := by simp [bts]
    rw [hB.cell, ← this, ← h6, List.getElem?_take_of_lt (by omega)]; simp
  have e2 : w.cell? ⟨g, xs.length + 1, none⟩ = some (.int .u8 92) := by
    have : (bts (xs ++ [91, 92]))[xs.length + 1]? = some (.int .u8 92) := by simp [bts]
    rw [hB.cell, ← this, ← h6, List.getElem?_take_of_lt (by omega)]; simp
  unfold maxLen at h4
  have t1 : (xs.length != xs.length) = false := by simp
  clear hB h5 h6
  generalize str xs = s at *
  generalize xs.length = n at *
  go_enter Try.func33, Try.ntmps33
  go_wp2_with fail
  go_returns
  exact ⟨rfl, rfl⟩
theorem bySpoilZ_row (w : World) (g n cap : Nat) (cur : Array Value) (h : Blk w g cur 5) (hc : ∀ t, t < n → ∃ m, cur[t]? = some (.int .u8 m)) (hn : n ≤ 140737488351232) :
    Calls Try.prog 17 #[.slice (some ⟨g, 0, none⟩) n cap] w (SpoilTo w g cur.size) := by
  have H := Lib.hid h
  have HC := Lib.hid hc
  clear h hc
  go_enter Try.func17, Try.ntmps17
  go_wp2_with fail
  go_loopw [2] (fun i wr => ∃ j : Nat, j ≤ n ∧ i = .int .i64 j ∧ (∃ cur', Blk wr g cur' 5 ∧ ∀ t, j ≤ t → cur'[t]? = cur[t]?) ∧ Fr (fun b => b = g) w wr) (fun i _ => n - (RowKit.intOf i).toNat)
  case atStart => exact ⟨0, Nat.zero_le _, rfl, ⟨cur, H.out, fun _ _ => rfl⟩, Fr.refl _ _⟩
  case round =>
    obtain ⟨j, hj, rfl, ⟨cur', hb', hsame⟩, hF⟩ := hrel
    have HB' := Lib.hid hb'
    have HS' := Lib.hid hsame
    clear hb' hsame
    by_cases hlt : j < n
    · have hlt' : decide (j < n) = true := decide_eq_true hlt
      have hlt2 : (j : Int) < n := by omega
      obtain ⟨m, hm⟩ := HC.out j hlt
      have f0 := HB'.out.free j
      have c0 := HB'.out.cell j
      rw [HS'.out j (Nat.le_refl _), hm] at c0
      clear hm
      go_wp2_with fail
      go_roundw
      case rel => exact ⟨j + 1, hlt, by go_num, ⟨_, HB'.out.set _ _, fun t ht => by rw [Array.getElem?_setIfInBounds, if_neg (by omega)]; exact HS'.out t (by omega)⟩, hF.trans (Fr.one wr g j _) fun _ _ h => h⟩
      case measure => simp [RowKit.intOf]; omega
    · obtain rfl : j = n := by omega
      have hlt' : decide (j < j) = false := decide_eq_false (by omega)
      go_wp2_with fail
      go_returns
      exact ⟨rfl, hF⟩
theorem bySpoilZ_rd (w : World) (g cap : Nat) (xs : List UInt8) (cur : Array Value) (h : Blk w g cur 5) (hc : cur.toList.take xs.length = bts xs) (hn : xs.length ≤ 140737488351232) :
    Calls Try.prog 17 #[.slice (some ⟨g, 0, none⟩) xs.length cap] w (SpoilTo w g cur.size) :=
  bySpoilZ_row w g xs.length cap cur h (fun t ht => ⟨_, by
    have := bts_get xs t ht
    rw [← this, ← hc, List.getElem?_take_of_lt ht]; simp⟩) hn

section
variable {H α : Type} {enc : TypeId × Value → H} {P : Program} {W : World}
theorem weights_mem_all {e : TypeId} : ∀ {ds : List (DataW H)} {d : DataW H}, d ∈ ds → ∀ k ∈ d.weights P e, k ∈ DataW.weightsAll P e ds
  | d0 :: ds, d, hd, k, hk => by
    simp only [DataW.weightsAll, List.mem_append]
    rcases List.mem_cons.1 hd with h | h
    · exact .inl (h ▸ hk)
    · exact .inr (weights_mem_all h k hk)
/-- How a value of type t reads that is within the reach. -/
def ReaderZ (enc : TypeId × Value → H) (P : Program) (W : World) (t : TypeId) (R : List Value → α → Prop) : Prop :=
  ∀ (n : Nat) (cs : List Value) (x : DataW H × List MemPlace), DataW.trod enc P W 0 (fun _ => true) true n t cs = some x → (∀ k ∈ x.1.weights P t, k ≤ reachBytes) → ∃ a, R cs a
theorem Reader.z {t : TypeId} {R : List Value → α → Prop} (h : Reader enc P W t R) : ReaderZ enc P W t R := fun n cs x hx _ => h n cs x hx
theorem readerZ_slice {t e : TypeId} {size : Nat} {R : List Value → α → Prop} (ht : P.underlying t = some (.slice e)) (hc : P.cellsOf e = size) (h1 : 0 < size) (hR : ReaderZ enc P W e R) :
    ReaderZ enc P W t (fun cs (al : List α) => ∃ v, cs = [v] ∧ RowOf W size R v al ∧ al.length * P.bytesOf e ≤ reachBytes) := by
  intro n cs x h hz
  rcases open_slice ht h with ⟨rfl, _⟩ | ⟨a, len, cap, m, q, D, Pl, rfl, _, hl, hm, hmm, hx, hi⟩
  · exact ⟨[], _, rfl, ⟨none, 0, rfl, Nat.le_refl _, Nat.zero_le _, fun h => absurd h (by simp)⟩, by simp⟩
  · simp only [if_true] at hmm
    rw [hc] at hi
    have hw : x.1.weights P t = ((List.range len).map D).length.add ((List.range (m - len)).map fun j => D (len + j)).length * P.bytesOf e :: (DataW.weightsAll P e ((List.range len).map D) ++ DataW.weightsAll P e ((List.range (m - len)).map fun j => D (len + j))) := by
      rw [hx]; simp only [DataW.weights, ht]; rfl
    have hbytes : len * P.bytesOf e ≤ reachBytes := by
      have := hz _ (by rw [hw]; exact List.mem_cons_self)
      refine Nat.le_trans (Nat.mul_le_mul_right _ ?_) this
      show len ≤ _ + _
      simp
    obtain ⟨al, hlen, has⟩ := list_of (α := α) (p := fun i a' => ∃ cs, R cs a' ∧ cs.length = size ∧ ∀ j, j < size → W.cell? (a.add (i * size + j)) = cs[j]?) len fun i hil => by
      obtain ⟨cs', hcs, htr⟩ := hi i (by omega)
      obtain ⟨a', ha'⟩ := hR _ _ _ htr fun k hk => hz k (by
        rw [hw]
        refine List.mem_cons_of_mem _ (List.mem_append_left _ (weights_mem_all (List.mem_map.2 ⟨i, List.mem_range.2 hil, rfl⟩) k hk)))
      obtain ⟨_, hlc, hat⟩ := World.cells?_some hcs
      exact ⟨a', cs', ha', hlc, fun j hj => by rw [← hat j hj, add_add]⟩
    refine ⟨al, _, rfl, ⟨some a, cap, by rw [hlen], by omega, hm, fun h0 => ?_⟩, by rw [hlen]; exact hbytes⟩
    rw [hlen] at h0
    obtain ⟨a0, ha0⟩ : ∃ a0, al[0]? = some a0 := ⟨al[0]'(by omega), List.getElem?_eq_getElem (by omega)⟩
    obtain ⟨cs0, _, hl0, hc0⟩ := has 0 a0 ha0
    have h00 := hc0 0 h1
    rw [List.getElem?_eq_getElem (by omega)] at h00
    obtain ⟨b, off, spot⟩ := a
    have hspot : spot = none := by
      have := World.cell?_spot h00
      simpa [Addr.add] using this
    subst hspot
    refine ⟨b, off, rfl, ?_, fun i a' ha' => ?_⟩
    · have := World.block_lt_of_cell? W _ h00
      simpa [Addr.add] using this
    · obtain ⟨cs', h2, h3, h4⟩ := has i a' ha'
      exact ⟨cs', h2, h3, fun j hj => by have := h4 j hj; rw [Addr.add_lit, ← Nat.add_assoc] at this; exact this⟩
theorem readerZ_bytes {t e : TypeId} (ht : P.underlying t = some (.slice e)) (he : P.underlying e = some (.int .u8)) (hc : P.cellsOf e = 1) (hb : P.bytesOf e = 1) :
    ReaderZ enc P W t (fun cs (xs : List UInt8) => ∃ v, cs = [v] ∧ Rd W (· < W.heap.size) v (bts xs) ∧ xs.length ≤ 140737488351232) := by
  intro n cs x h hz
  obtain ⟨xs, v, h1, h2, h3⟩ := readerZ_slice ht hc (by decide) (reader_byte he).z n cs x h hz
  rw [hb, Nat.mul_one] at h3
  exact ⟨xs, v, h1, h2.bytes, h3⟩
theorem struct_cellsZ {t : TypeId} {fs : Array Field} {n : Nat} {cs : List Value} {x : DataW H × List MemPlace} (hs : P.underlying t = some (.struct fs)) (hone : oneCellFields P fs = true) (hC : P.cellsOf t = fs.size)
    (h : DataW.trod enc P W 0 (fun _ => true) true n t cs = some x) (hz : ∀ k ∈ x.1.weights P t, k ≤ reachBytes) :
    cs.length = fs.size ∧ ∀ (j : Nat) (f : Field), fs[j]? = some f → ∃ (c : Value) (y : DataW H × List MemPlace) (m : Nat), cs[j]? = some c ∧ DataW.trod enc P W 0 (fun _ => true) true m f.type [c] = some y ∧ ∀ k ∈ y.1.weights P f.type, k ≤ reachBytes := by
  obtain ⟨xs, m, _, hx, hl, hlen, hg⟩ := DataW.trod_struct hs h
  rw [hC] at hl
  refine ⟨hl, fun j f hj => ?_⟩
  have hlt : j < fs.size := (Array.getElem?_eq_some_iff.1 hj).1
  obtain ⟨ho, hk⟩ := hone_of hone j f hj
  have := hg j f hj
  rw [ho, hk] at this
  have e : (cs.drop j).take 1 = [cs[j]'(by omega)] := by
    rw [List.drop_eq_getElem_cons (by omega), List.take_succ_cons, List.take_zero]
  rw [e, List.getElem?_eq_getElem (by omega)] at this
  refine ⟨cs[j]'(by omega), _, m, List.getElem?_eq_getElem (by omega), this, fun k hk => hz k ?_⟩
  have hw : x.1.weights P t = DataW.weightsEach P (fs.toList.map (·.type)) (xs.map (·.1)) := by
    rw [hx]; simp only [DataW.weights, hs]
  rw [hw]
  refine DataW.weights_mem_each (j := j) (t := f.type) (d := (xs[j]'(by omega)).1) ?_ ?_ k hk
  · rw [List.getElem?_map, Array.getElem?_toList, hj]; rfl
  · rw [List.getElem?_map, List.getElem?_eq_getElem (by omega)]; rfl
/-- One argument of one cell, opened by its reader, within the reach. -/
theorem open_readerZ {t : TypeId} {v : Value} {d : DataW H} {p : List MemPlace} {R : Value → α → Prop} (hR : ReaderZ enc P W t (fun cs a => ∃ v, cs = [v] ∧ R v a)) (h : DataW.Trod enc P W 0 (fun _ => true) true t v d p) (hz : ∀ k ∈ d.weights P t, k ≤ reachBytes) (hv : ∃ a len cap, v = .slice a len cap) :
    ∃ a, R v a := by
  obtain ⟨n, hf⟩ := h
  obtain ⟨a0, len0, cap0, rfl⟩ := hv
  obtain ⟨a, v', h1, h2⟩ := hR _ _ _ hf hz
  have : Value.slice a0 len0 cap0 = v' := by simpa [Value.cells] using h1
  subst this
  exact ⟨a, h2⟩
theorem open_readerZ2 {t : TypeId} {v : Value} {d : DataW H} {p : List MemPlace} {R : Value → α → Prop} (hR : ReaderZ enc P W t (fun cs a => ∃ v, cs = [v] ∧ R v a)) (hz : ∀ k ∈ d.weights P t, k ≤ reachBytes) (h : DataW.Trod enc P W 0 (fun _ => true) true t v d p) (hv : ∃ a len cap, v = .slice a len cap) :
    ∃ a, R v a := open_readerZ hR h hz hv
end
/-- An act: its kind, its bytes, its records, its number. -/
structure ActT where
  kind : Int
  r : List UInt8
  l : List (List UInt8)
  n : Int
def ActIsT (W : World) (cs : List Value) (a : ActT) : Prop :=
  ∃ v u, cs = [.int .i64 a.kind, v, u, .int .i64 a.n] ∧ (Rd W (· < W.heap.size) v (bts a.r) ∧ a.r.length ≤ 140737488351232 ∧ a.l.length ≤ 140737488351232) ∧ RowOf W 1 (fun cs (xs : List UInt8) => ∃ v, cs = [v] ∧ Rd W (· < W.heap.size) v (bts xs)) u a.l ∧ (-9223372036854775808 ≤ a.n ∧ a.n ≤ 9223372036854775807) ∧ -9223372036854775808 ≤ a.kind ∧ a.kind ≤ 9223372036854775807
section
variable {H : Type} {enc : TypeId × Value → H} {W : World}
theorem readerZ_actT : ReaderZ enc Try.prog W 40 (ActIsT W) := by
  intro n cs x h hz
  obtain ⟨hl, hg⟩ := struct_cellsZ Try.underlying40 (by kernel_rfl) (by kernel_rfl) h hz
  obtain ⟨c0, y0, n0, e0, t0, z0⟩ := hg 0 _ rfl
  obtain ⟨c1, y1, n1, e1, t1, z1⟩ := hg 1 _ rfl
  obtain ⟨c2, y2, n2, e2, t2, z2⟩ := hg 2 _ rfl
  obtain ⟨c3, y3, n3, e3, t3, z3⟩ := hg 3 _ rfl
  obtain ⟨k, rfl, wk⟩ := field_int Try.underlying3 t0
  obtain ⟨m, rfl, wm⟩ := field_int Try.underlying3 t3
  obtain ⟨xs, v, hv, hR, hlen⟩ := readerZ_bytes Try.underlying37 Try.underlying5 (by kernel_rfl) (by kernel_rfl) _ _ _ t1 z1
  injection hv with hv _
  subst hv
  obtain ⟨ll, u, hu, hU, hUl⟩ := readerZ_slice (size := 1) Try.underlying38 (by kernel_rfl) (by decide) (reader_bytes Try.underlying37 Try.underlying5 (by kernel_rfl)).z _ _ _ t2 z2
  have hb24 : Try.prog.bytesOf 37 = 24 := by kernel_rfl
  rw [hb24] at hUl
  have hU2 : ll.length ≤ 140737488351232 := by have : ll.length * 24 ≤ 140737488351232 := hUl; omega
  injection hu with hu _
  subst hu
  refine ⟨⟨k, xs, ll, m⟩, c1, c2, ?_, ⟨hR, hlen, hU2⟩, hU, wf_i64' wm, wf_i64' wk⟩
  match cs, hl, e0, e1, e2, e3 with
  | [a, b, c, d], _, e0, e1, e2, e3 =>
    simp at e0 e1 e2 e3
    rw [e0, e1, e2, e3]
end
/-- One act of a row that came in, later. -/
theorem actsT_at {W W' : World} {A : Option Addr} {n c : Nat} {al : List ActT} (h : RowOf W 4 (ActIsT W) (.slice A n c) al) (hB : Below W.heap.size W W') {k : Nat} (hk : k < al.length) :
    ∃ b off v u, A = some ⟨b, off, none⟩ ∧ W'.cell? ⟨b, off + k * 4, none⟩ = some (.int .i64 (al[k]'hk).kind) ∧ W'.cell? ⟨b, off + k * 4 + 1, none⟩ = some v ∧ W'.cell? ⟨b, off + k * 4 + 2, none⟩ = some u ∧ W'.cell? ⟨b, off + k * 4 + 3, none⟩ = some (.int .i64 (al[k]'hk).n) ∧
      Rd W' (· < W.heap.size) v (bts (al[k]'hk).r) ∧ (al[k]'hk).r.length ≤ 140737488351232 ∧ (al[k]'hk).l.length ≤ 140737488351232 ∧ RdK W' (· < W.heap.size) u (al[k]'hk).l ∧ (-9223372036854775808 ≤ (al[k]'hk).n ∧ (al[k]'hk).n ≤ 9223372036854775807) ∧ (-9223372036854775808 ≤ (al[k]'hk).kind ∧ (al[k]'hk).kind ≤ 9223372036854775807) ∧ b < W.heap.size := by
  obtain ⟨A', c', h1, h2, h3, h4⟩ := h
  injection h1 with h1 _ _
  subst h1
  obtain ⟨b, off, rfl, hb, hi⟩ := h4 (by omega)
  obtain ⟨cs, ⟨v, u, rfl, ⟨hR, hlen, hl2⟩, hU, hn, hkd⟩, hl, hc⟩ := hi k (al[k]'hk) (List.getElem?_eq_getElem hk)
  refine ⟨b, off, v, u, rfl, ?_, ?_, ?_, ?_, hR.kept hB, hlen, hl2, (RdK.of_row hU).kept hB, hn, hkd, hb⟩
  · have := hc 0 (by decide)
    rw [World.cell?_of_block (w := W) (hB.block b hb)]; exact this
  · have := hc 1 (by decide)
    rw [World.cell?_of_block (w := W) (hB.block b hb)]; exact this
  · have := hc 2 (by decide)
    rw [World.cell?_of_block (w := W) (hB.block b hb)]; exact this
  · have := hc 3 (by decide)
    rw [World.cell?_of_block (w := W) (hB.block b hb)]; exact this
/-- What an act leaves: both open at one state, or both closed. -/
def DoTo (w : World) (pb sb mb : Nat) (room : Int) (w' : World) : Prop :=
  (∃ tb rb N M t, PO w pb sb tb mb rb N M t t w' ∧ t.s.room = room) ∨ (∃ N M s, PC w pb sb mb (.pointer none) (.pointer none) N M s s w' ∧ s.room = room)
theorem addS_room (s : St) (ys : List UInt8) : (addS s ys).1.room = s.room := by unfold addS; split <;> (try split) <;> (try split) <;> rfl
theorem syncS_room (s : St) : (syncS s).1.room = s.room := by unfold syncS; split <;> (try split) <;> rfl
theorem cutS_room (s : St) (n : Int) : (cutS s n).1.room = s.room := by unfold cutS; split <;> (try split) <;> (try split) <;> rfl
theorem appT_room (t : TS) (r : List UInt8) : (appT t r).1.s.room = t.s.room := by
  unfold appT
  split <;> (try split) <;> simp [addS_room, syncS_room]
theorem notT_room (p : TS × Int) : (notT p).1.s.room = p.1.s.room := by unfold notT; split <;> rfl
theorem packLp_room : ∀ (l : List (List UInt8)) (t : TS), (packLp t l).1.s.room = t.s.room
  | [], t => rfl
  | r :: l, t => by
    rw [packLp_cons]
    split
    · rw [packLp_room l, appT_room]
    · rw [appT_room]
theorem packT_room (t : TS) (l : List (List UInt8)) : (packT t l).1.s.room = t.s.room := by
  unfold packT
  split
  · rfl
  · split
    · rfl
    · split
      · rw [notT_room, packLp_room]; exact cutS_room _ _
      · rw [notT_room]; exact cutS_room _ _
theorem ReTo.do {w w' : World} {pb sb mb : Nat} {s : St} (h : ReTo w pb sb mb s w') : DoTo w pb sb mb s.room w' := by
  rcases h with ⟨_, tb, rb, N, M, h⟩ | ⟨_, N, M, h⟩
  · exact .inl ⟨tb, rb, N, M, _, h, open_room s⟩
  · exact .inr ⟨N, M, _, h, open_room s⟩
section
variable {w wr : World} {pb sb tb mb rb : Nat} {N M : Nat → Prop} {t : TS}
set_option maxRecDepth 100000 in
set_option maxHeartbeats 1000000 in
theorem does_any (a : ActT) (v u : Value) (h : PO w pb sb tb mb rb N M t t wr) (hr : t.s.room ≤ 100000) (hR : Rd wr (· < w.heap.size) v (bts a.r)) (hlen : a.r.length ≤ 140737488351232) (hL : RdK wr (· < w.heap.size) u a.l) (hll : a.l.length ≤ 1048576) (hn : -9223372036854775808 ≤ a.n ∧ a.n ≤ 9223372036854775807) :
    Calls Try.prog 12 #[.pointer (some ⟨pb, 0, none⟩), .agg #[.int .i64 a.kind, v, u, .int .i64 a.n]] wr fun e w' => e = .returned (.bool true) ∧ DoTo w pb sb mb t.s.room w' := by
  obtain ⟨kd, r, l, n⟩ := a
  dsimp only at *
  have H := Lib.hid h
  have HR := Lib.hid hR
  have HL := Lib.hid hL
  have HLen := Lib.hid hlen
  have HRm := Lib.hid hr
  obtain ⟨Ar, cr, rfl, _⟩ := rd_form hR
  obtain ⟨Al, cl, rfl, _⟩ := hL.form
  have hxb : pb < wr.heap.size := h.blk.lt
  have X0 : Hid (∀ W, Below wr.heap.size wr W → PO w pb sb tb mb rb N M t t W) := fun W f => h.kept f
  clear h hR hL hlen hr
  go_enter Try.func12, Try.ntmps12
  go_upto_region 1 with fail
  obtain ⟨w0, hw0⟩ : ∃ w0, w0 = wr.alloc (.cells #[.int .i64 kd, .slice Ar r.length cr, .slice Al l.length cl, .int .i64 n] 40) := ⟨_, rfl⟩
  rw [← hw0]
  have b0 : Below wr.heap.size wr w0 := by rw [hw0]; exact (Below.refl _ wr).alloc (Nat.le_refl _) _
  have XB : Hid (Blk w0 wr.heap.size #[.int .i64 kd, .slice Ar r.length cr, .slice Al l.length cl, .int .i64 n] 40) := by rw [hw0]; exact Blk.new _ _ _
  have P0 := Lib.hid (H.out.kept b0)
  have R0 := Lib.hid (HR.out.kept b0)
  have L0 := Lib.hid (HL.out.kept b0)
  have XN : Hid (¬ N wr.heap.size ∧ ¬ M wr.heap.size ∧ wr.heap.size ≠ pb) := ⟨fun h => by have := (H.out.tk.lt _ h).2; omega, fun h => by have := (H.out.rk.lt _ h).2; omega, by omega⟩
  generalize wr.heap.size = xb at *
  have x0 := XB.out.cell 0
  have x1 := XB.out.cell 1
  have x2 := XB.out.cell 2
  have x3 := XB.out.cell 3
  simp at x0 x1 x2 x3
  have y0 := P0.out.blk.cell 0
  have y1 := P0.out.blk.cell 1
  have y2 := P0.out.blk.cell 2
  have y3 := P0.out.blk.cell 3
  simp at y0 y1 y2 y3
  clear hw0 b0 X0 H HR HL
  have hLl : l.length ≤ 1048576 := hll
  by_cases h012 : kd = 0 ∨ kd = 1 ∨ kd = 2
  · obtain ⟨t', e', hadd⟩ : ∃ t' e', addT t r = (t', e') := ⟨_, _, rfl⟩
    have HAD := Lib.hid hadd
    have RM' : Hid (t'.s.room = t.s.room) := by have := addT_room t r; rw [hadd] at this; exact this
    have te : (e' == e') = true := by simp
    clear hadd
    rcases h012 with rfl | rfl | rfl
    all_goals
      go_wp2_with fail
      refine (byLentZ (by exact R0.out) HLen.out).mono ?_; rintro e w1 ⟨vo, rfl, hlo, hgo, hb1⟩
      have P1 := Lib.hid (P0.out.kept hb1)
      have L1 := Lib.hid hlo
      have R1 := Lib.hid (R0.out.kept hb1)
      have X1 := Lib.hid (XB.out.kept hb1)
      obtain ⟨go, cap, cur, rfl, hlo2⟩ := hlo
      have hgo2 : w0.heap.size ≤ go := hgo go rfl
      have NG : Hid (¬ N go ∧ ¬ M go ∧ w.heap.size ≤ go ∧ go ≠ pb ∧ go ≠ xb) := ⟨fun h => by have := (P0.out.tk.lt _ h).2; omega, fun h => by have := (P0.out.rk.lt _ h).2; omega, by have := P0.out.below.size; omega, by have := P0.out.blk.lt; omega, by have := XB.out.lt; omega⟩
      have y1' := P1.out.blk.cell 1
      simp at y1'
      clear hlo2 hgo hb1 x0 x1 x2 x3 y0 y1 y2 y3 hgo2
      go_wp2_with fail
      refine (tAdd_at HAD.out P1.out.tk (L1.out.rd (K := fun b => b = go) (fun g hg => by have : go = g := (by simpa [Value.ownBlock] using hg); exact this.symm)) (fun b hb hn => NG.out.1 (hb ▸ hn))).mono ?_; rintro e w2 ⟨rfl, h2⟩
      obtain ⟨N2, hp2, f2, n2⟩ := P1.out.toT h2
      have P2 : Hid (PO w pb sb tb mb rb N2 M t' t w2.drew) := hp2.kept (Below.refl _ _).drew
      have hlt : go < w1.heap.size := by obtain ⟨_, _, _, e1, e2, _⟩ := L1.out; obtain rfl : go = _ := (by injection e1 with e1 _ _; injection e1 with e1; injection e1); exact e2.lt
      have NG2 : Hid (¬ N2 go) := n2 go hlt NG.out.1
      have L2 : Hid (Lentd w2.drew (.slice (some ⟨go, 0, none⟩) r.length cap) r) := (L1.out.fr f2 fun g hg => by have : go = g := (by simpa [Value.ownBlock] using hg); subst this; exact NG.out.1).fr (N := fun _ => False) (Fr.refl _ _).drew fun _ _ h => h
      have R2 : Hid (Rd w2.drew (· < w.heap.size) (.slice Ar r.length cr) (bts r)) := (R1.out.fr f2 fun b hb _ h => by have := (P1.out.tk.lt b h).1; omega).kept (Below.refl _ _).drew
      have X2 := X1.out.fr f2 XN.out.1
      have X2d : Hid (Blk w2.drew xb _ _) := X2
      have x1 := X2.cell 1
      have y3 := hp2.blk.cell 3
      simp at x1 y3
      clear h2 hp2 f2 n2 hlt X2 y1' P1 L1 R1 X1
      go_wp2_with fail
      go_still_tail 6, (by kernel_rfl)
      change wpList _ _ _ _ _ w2.drew
      generalize w2.drew = W2 at *
      clear x1 y3
      go_wp2_with fail
      refine (refTAdd_at HAD.out P2.out.rk (by exact R2.out) (fun b hb h => by have := (P2.out.rk.lt b h).1; omega)).mono ?_; rintro e w3 ⟨rfl, h3⟩
      obtain ⟨M3, hp3, f3, m3⟩ := P2.out.toR h3
      have P3 := Lib.hid hp3
      have hlt : go < W2.heap.size := by obtain ⟨_, _, _, e1, e2, _⟩ := L2.out; obtain rfl : go = _ := (by injection e1 with e1 _ _; injection e1 with e1; injection e1); exact e2.lt
      have NG3 : Hid (¬ M3 go) := m3 go hlt NG.out.2.1
      have L3 := Lib.hid (L2.out.fr f3 fun g hg => by have : go = g := (by simpa [Value.ownBlock] using hg); subst this; exact NG.out.2.1)
      have R3 := Lib.hid (R2.out.fr f3 fun b hb _ h => by have := (P2.out.rk.lt b h).1; omega)
      have X3 := X2d.out.fr f3 XN.out.2.1
      have x1 := X3.cell 1
      simp at x1
      clear h3 hp3 f3 m3 hlt X3 P2 L2 R2 X2d
      go_wp2_with fail
      refine (byWholeZ L3.out (by exact R3.out) HLen.out).mono ?_; rintro e w3 ⟨rfl, rfl⟩
      have SPo : Hid (Calls Try.prog 17 #[.slice (some ⟨go, 0, none⟩) r.length cap] w3 fun e w' => e = .returned (.tuple #[]) ∧ Fr (fun b => b = go) w3 w') := by
        obtain ⟨g', cap', cur', e1, e2, e3, e4, e5, e6⟩ := L3.out
        injection e1 with e1 _ e7
        injection e1 with e1
        injection e1 with e1
        subst e1 e7
        refine bySpoilZ_rd w3 go cap r cur' e2 ?_ HLen.out
        have : (cur'.toList.take (r.length + 2)).take r.length = bts r := by rw [e6, bts_app, List.take_append_of_le_length (by simp), List.take_of_length_le (by simp)]
        rw [List.take_take, Nat.min_eq_left (by omega)] at this
        exact this
      go_wp2_with fail
      refine SPo.out.mono ?_; rintro e w4 ⟨rfl, hF4⟩
      have P4 := Lib.hid (P3.out.fr hF4 fun b hb _ => by subst hb; exact ⟨NG2.out, NG3.out, NG.out.2.2.2.1, NG.out.2.2.1⟩)
      clear hF4 x1 SPo
      go_wp2_with fail
      go_returns
      exact ⟨rfl, .inl ⟨tb, rb, N2, M3, _, P4.out, RM'.out⟩⟩
  · by_cases h3 : kd = 3
    · subst h3
      clear h012
      have PD : Hid (PO w pb sb tb mb rb N M t t w0.drew) := P0.out.kept (Below.refl _ _).drew
      have XB1 : Hid (Blk w0.drew xb #[.int .i64 3, .slice Ar r.length cr, .slice Al l.length cl, .int .i64 n] 40) := XB.out
      have L1 : Hid (RdK w0.drew (· < w.heap.size) (.slice Al l.length cl) l) := L0.out.kept (Below.refl _ _).drew
      obtain ⟨t', e', hpk⟩ : ∃ t' e', packT t l = (t', e') := ⟨_, _, rfl⟩
      have HPK := Lib.hid hpk
      have RM' : Hid (t'.s.room = t.s.room) := by have := packT_room t l; rw [hpk] at this; exact this
      have PK : Hid (Calls Try.prog 27 #[.pointer (some ⟨tb, 0, none⟩), .slice Al l.length cl] w0.drew fun e w' => e = .returned (.int .i64 e') ∧ TkTo w0.drew w.heap.size N sb tb t' w') := by
        have := tapePack_any PD.out.tk L1.out (fun b hb h => by have := (PD.out.tk.lt b h).1; omega) (fun b hb => Nat.lt_of_lt_of_le hb PD.out.below.size) hLl
        rw [hpk] at this; exact this
      clear hpk
      go_wp2_with fail
      go_still_tail 6, (by kernel_rfl)
      change wpList _ _ _ _ _ w0.drew
      generalize w0.drew = W at *
      clear P0 R0 L0 XB x0 x1 x2 x3 y0 y1 y2 y3
      go_wp2_with fail
      refine PK.out.mono ?_; rintro e w5 ⟨rfl, h5⟩
      obtain ⟨N5, hp5, f5, n5⟩ := PD.out.toT h5
      have P5 : Hid (PO w pb sb tb mb rb N5 M t' t w5.drew) := hp5.kept (Below.refl _ _).drew
      have XB5 := XB1.out.fr f5 XN.out.1
      have L5 : Hid (RdK w5.drew (· < w.heap.size) (.slice Al l.length cl) l) := (L1.out.fr f5 fun b hb _ h => by have := (PD.out.tk.lt b h).1; omega).kept (Below.refl _ _).drew
      have x2 := XB5.cell 2
      have y3 := hp5.blk.cell 3
      simp at x2 y3
      have PK2 : Hid (Calls Try.prog 34 #[.pointer (some ⟨rb, 0, none⟩), .slice Al l.length cl] w5.drew fun e w' => e = .returned (.int .i64 e') ∧ RkTo w5.drew w.heap.size M mb rb t' w') := by
        have := refPack_any P5.out.rk L5.out (fun b hb h => by have := (P5.out.rk.lt b h).1; omega) (fun b hb => Nat.lt_of_lt_of_le hb P5.out.below.size) hLl
        rw [HPK.out] at this; exact this
      have te : (e' == e') = true := by simp
      clear h5 hp5 f5 n5 XB5 PK PD XB1 L1 L5
      go_wp2_with fail
      go_still_tail 6, (by kernel_rfl)
      change wpList _ _ _ _ _ w5.drew
      generalize w5.drew = W5 at *
      clear x2 y3
      go_wp2_with fail
      refine PK2.out.mono ?_; rintro e w6 ⟨rfl, h6⟩
      obtain ⟨M6, hp6, _, _⟩ := P5.out.toR h6
      have P6 := Lib.hid hp6
      clear h6 hp6 PK2 P5
      go_wp2_with fail
      go_returns
      exact ⟨rfl, .inl ⟨tb, rb, N5, M6, _, P6.out, RM'.out⟩⟩
    · by_cases h4 : kd = 4
      · subst h4
        clear h012 h3
        have PD : Hid (PO w pb sb tb mb rb N M t t w0.drew) := P0.out.kept (Below.refl _ _).drew
        have XB1 : Hid (Blk w0.drew xb #[.int .i64 4, .slice Ar r.length cr, .slice Al l.length cl, .int .i64 n] 40) := XB.out
        have FW := PD.out.tk.few.1
        have OF : Hid (Calls Try.prog 18 #[.pointer (some ⟨sb, 0, none⟩), .int .i64 n] w0.drew fun e w' => e = .returned (.tuple #[]) ∧ TkTo w0.drew w.heap.size N sb tb ⟨offS t.s n, t.l, t.lost⟩ w') :=
          PD.out.tk.spool (s' := offS t.s n) FW fun M hM hN => off_any n hn.2 hM
        go_wp2_with fail
        go_still_tail 6, (by kernel_rfl)
        change wpList _ _ _ _ _ w0.drew
        generalize w0.drew = W at *
        clear P0 R0 L0 XB x0 x1 x2 x3 y0 y1 y2 y3
        go_wp2_with fail
        refine OF.out.mono ?_; rintro e w5 ⟨rfl, h5⟩
        obtain ⟨N5, hp5, f5, n5⟩ := PD.out.toT h5
        have P5 : Hid (PO w pb sb tb mb rb N5 M ⟨offS t.s n, t.l, t.lost⟩ t w5.drew) := hp5.kept (Below.refl _ _).drew
        have XB5 := XB1.out.fr f5 XN.out.1
        have x3 := XB5.cell 3
        have y2 := hp5.blk.cell 2
        simp at x3 y2
        have OF2 : Hid (Calls Try.prog 19 #[.pointer (some ⟨mb, 0, none⟩), .int .i64 n] w5.drew fun e w' => e = .returned (.tuple #[]) ∧ RkTo w5.drew w.heap.size M mb rb ⟨offS t.s n, t.l, t.lost⟩ w') :=
          P5.out.rk.spool (s' := offS t.s n) FW fun M hM hN => refOff_any n hn.2 hM
        clear h5 hp5 f5 n5 XB5 OF PD XB1
        go_wp2_with fail
        go_still_tail 6, (by kernel_rfl)
        change wpList _ _ _ _ _ w5.drew
        generalize w5.drew = W5 at *
        clear x3 y2
        go_wp2_with fail
        refine OF2.out.mono ?_; rintro e w6 ⟨rfl, h6⟩
        obtain ⟨M6, hp6, _, _⟩ := P5.out.toR h6
        have P6 := Lib.hid hp6
        clear h6 hp6 OF2 P5
        go_wp2_with fail
        go_returns
        exact ⟨rfl, .inl ⟨tb, rb, N5, M6, _, P6.out, rfl⟩⟩
      · by_cases h5 : kd = 5
        · subst h5
          clear h012 h3 h4
          obtain ⟨N1, M1, hpc, hs1, hs2⟩ := P0.out.close2
          have PCc : Hid (PC w pb sb mb (.pointer (some ⟨tb, 0, none⟩)) (.pointer (some ⟨rb, 0, none⟩)) N1 M1 t.s t.s w0.drew) := hpc.kept (Below.refl _ _).drew
          have XB1 : Hid (Blk w0.drew xb #[.int .i64 5, .slice Ar r.length cr, .slice Al l.length cl, .int .i64 n] 40) := XB.out
          have CR : Hid (Calls Try.prog 22 #[.pointer (some ⟨sb, 0, none⟩), .int .i64 n] w0.drew fun e w' => e = .returned (.tuple #[]) ∧ SpTo w0.drew w.heap.size N1 sb (crashS t.s n) w') := crash_any n PCc.out.sp
          have XN1 : Hid (¬ N1 xb ∧ ¬ M1 xb) := ⟨fun h => XN.out.1 (hs1 _ h), fun h => XN.out.2.1 (hs2 _ h)⟩
          clear hpc hs1 hs2
          go_wp2_with fail
          go_still_tail 6, (by kernel_rfl)
          change wpList _ _ _ _ _ w0.drew
          generalize w0.drew = W at *
          clear P0 R0 L0 XB x0 x1 x2 x3 y0 y1 y2 y3
          go_wp2_with fail
          refine CR.out.mono ?_; rintro e w5 ⟨rfl, h5⟩
          obtain ⟨N5, hp5, f5, n5⟩ := PCc.out.toS h5
          have PC5 : Hid (PC w pb sb mb (.pointer (some ⟨tb, 0, none⟩)) (.pointer (some ⟨rb, 0, none⟩)) N5 M1 (crashS t.s n) t.s w5.drew) := hp5.kept (Below.refl _ _).drew
          have XB5 := XB1.out.fr f5 XN1.out.1
          have x3 := XB5.cell 3
          have y2 := hp5.blk.cell 2
          simp at x3 y2
          have CR2 : Hid (Calls Try.prog 23 #[.pointer (some ⟨mb, 0, none⟩), .int .i64 n] w5.drew fun e w' => e = .returned (.tuple #[]) ∧ RfTo w5.drew w.heap.size M1 mb (crashS t.s n) w') := refCrash_any n PC5.out.rf
          clear h5 hp5 f5 n5 XB5 CR PCc XB1
          go_wp2_with fail
          go_still_tail 6, (by kernel_rfl)
          change wpList _ _ _ _ _ w5.drew
          generalize w5.drew = W5 at *
          clear x3 y2
          go_wp2_with fail
          refine CR2.out.mono ?_; rintro e w6 ⟨rfl, h6⟩
          obtain ⟨M6, hp6, _, _⟩ := PC5.out.toR h6
          have PC6 := Lib.hid hp6
          have RE := Lib.hid (reopen_any PC6.out (by have h1 := PC6.out.sp.1.2.1; have h2 := HRm.out; have h3 : (crashS t.s n).room = t.s.room := rfl; rw [h3] at h1; omega))
          clear h6 hp6 CR2 PC5
          go_wp2_with fail
          refine RE.out.mono ?_; rintro e w7 ⟨rfl, hre, _⟩
          have HRE := Lib.hid hre.do
          clear hre
          go_wp2_with fail
          go_returns
          exact ⟨rfl, HRE.out⟩
        · have t0 : (kd == 0) = false := by simp; omega
          have t1 : (kd == 1) = false := by simp; omega
          have t2 : (kd == 2) = false := by simp; omega
          have t3 : (kd == 3) = false := by simp; omega
          have t4 : (kd == 4) = false := by simp; omega
          have t5 : (kd == 5) = false := by simp; omega
          clear h012 h3 h4 h5
          obtain ⟨N1, M1, hpc, _⟩ := P0.out.close2
          have PCc := Lib.hid hpc
          clear hpc
          have RE := Lib.hid (reopen_any PCc.out (by have h1 := PCc.out.sp.1.2.1; have h2 := HRm.out; omega))
          go_wp2_with fail
          refine RE.out.mono ?_; rintro e w5 ⟨rfl, hre, _⟩
          have HRE := Lib.hid hre.do
          clear hre
          go_wp2_with fail
          go_returns
          exact ⟨rfl, HRE.out⟩
end
end Go.Proofs.Ytgohnidndjbjiaa
