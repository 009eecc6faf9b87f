/-
  Layer 17: gangerlaw17.row at any rows.
-/
import Derived.Test.YtbgdhmacpgnfeaaCrateL
namespace Go.Proofs.Ytbgdhmacpgnfeaa
open Go Go.RowKit Go.Lib
set_option linter.unusedVariables false

theorem owns_ne {w : World} {b1 b2 n m s1 s2 : Nat} {e1 e2 : TypeId} {v1 v2 : Value} {xs ys : List Value} (h : w.ownsRow b1 e1 s1 v1 n xs) (ho : w.ownsRow b2 e2 s2 v2 m ys) (hne : e1 ≠ e2) : ∀ g, v1.ownBlock = some g → v2.ownBlock ≠ some g := by
  intro g h1 h2
  obtain ⟨_, ⟨rfl, _⟩ | ⟨g1, _, c1, rfl, _, hc1, _⟩⟩ := h
  · cases h1
  obtain ⟨_, ⟨rfl, _⟩ | ⟨g2, _, c2, rfl, _, hc2, _⟩⟩ := ho
  · cases h2
  obtain rfl : g1 = g := by simpa [Value.ownBlock] using h1
  obtain rfl : g2 = g1 := by simpa [Value.ownBlock] using h2
  exact Blk.ne_ (w := w) (b := g2) (b' := g2) hc1 hc2 hne rfl
theorem owns_grown {w w1 : World} {base n size : Nat} {e : TypeId} {v : Value} {row : Option Nat} {xs : List Value} (h : w.ownsRow base e size v n xs) (g : w.grownBy w1 row) (hn : ∀ b, row = some b → v.ownBlock ≠ some b) : w1.ownsRow base e size v n xs :=
  owns_fr h (N := fun b => row = some b) ((Fr.refl _ w).grown g fun b hb => .inl hb) fun b hb hr => hn b hr hb
/-- Crates one behind the other. -/
def flatB (l : List (List UInt8)) : List UInt8 := (l.map putB).flatten
theorem flatB_snoc (l : List (List UInt8)) (x : List UInt8) : flatB (l ++ [x]) = flatB l ++ putB x := by simp [flatB]
theorem flatB_len (l : List (List UInt8)) : (flatB l).length = endL l := by
  induction l with
  | nil => rfl
  | cons x l ih => simp only [flatB, endL, List.map_cons, List.flatten_cons, List.length_append, List.sum_cons, putB_len] at *; omega
/-- Where each ends. -/
def endsB (l : List (List UInt8)) : List Value := (List.range l.length).map fun i => .int .i64 ((endL (l.take (i + 1)) : Nat) : Int)
theorem endsB_len (l : List (List UInt8)) : (endsB l).length = l.length := by simp [endsB]
theorem endsB_get (l : List (List UInt8)) (i : Nat) (h : i < l.length) : (endsB l)[i]? = some (.int .i64 ((endL (l.take (i + 1)) : Nat) : Int)) := by simp [endsB, h]
theorem endsB_snoc (l : List (List UInt8)) (x : List UInt8) : endsB (l ++ [x]) = endsB l ++ [.int .i64 ((endL (l ++ [x]) : Nat) : Int)] := by
  apply List.ext_getElem?
  intro i
  rcases Nat.lt_trichotomy i l.length with h | rfl | h
  · rw [endsB_get _ _ (by simp; omega), List.getElem?_append_left (by rw [endsB_len]; omega), endsB_get _ _ h, List.take_append_of_le_length (by omega)]
  · rw [endsB_get _ _ (by simp), List.getElem?_append_right (by rw [endsB_len]; omega), endsB_len, Nat.sub_self, List.take_of_length_le (by simp)]; rfl
  · rw [List.getElem?_eq_none (by rw [endsB_len]; simp; omega), List.getElem?_eq_none (by simp [endsB_len]; omega)]
theorem endL_app (l m : List (List UInt8)) : endL (l ++ m) = endL l + endL m := by simp [endL]
theorem endL_le (l : List (List UInt8)) (i : Nat) : endL (l.take i) ≤ endL l := by
  have h := endL_app (l.take i) (l.drop i)
  rw [List.take_append_drop] at h
  omega
/-- What row has laid. -/
structure RowSt (w wr : World) (good : List (List UInt8)) (gs : List Value) (bv gv ev : Value) : Prop where
  each : ∀ x ∈ good, x.length ≤ 8000
  b : wr.ownsRow w.heap.size 5 1 bv (endL good) (bts (flatB good))
  gl : gs.length = good.length
  g : wr.ownsRow w.heap.size 22 1 gv good.length gs
  gr : ∀ (i : Nat) (u : Value) (x : List UInt8), gs[i]? = some u → good[i]? = some x → Rd w (· < w.heap.size) u (bts x)
  e : wr.ownsRow w.heap.size 3 1 ev good.length (endsB good)
  fr : Below w.heap.size w wr
def RowLp (w : World) (l : List (List UInt8)) (bv gv ev iv : Value) (wr : World) : Prop :=
  ∃ (good : List (List UInt8)) (gs : List Value) (i : Nat), iv = .int .i64 i ∧ i ≤ l.length ∧ endL good ≤ 17010 ∧ RowSt w wr good gs bv gv ev
def RowTo (w : World) (e : Ending) (w' : World) : Prop :=
  ∃ (good : List (List UInt8)) (gs : List Value) (bv gv ev : Value), e = .returned (.tuple #[bv, gv, ev]) ∧ endL good ≤ 17010 ∧ RowSt w w' good gs bv gv ev
theorem Try.infoI : (Try.prog.info? 3).map (fun i => (i.zero, i.size, i.bytes)) = some (some (.int .i64 0), 1, 8) := by kernel_rfl
/-- A round that lays one more. -/
theorem RowSt.next {w wr w1 w2 w3 w4 : World} {good : List (List UInt8)} {gs : List Value} {bv gv ev bv' gv' ev' u : Value} {x : List UInt8} {o1 o2 : Obj} (S : RowSt w wr good gs bv gv ev) (hx : x.length ≤ 8000) (hu : Rd w (· < w.heap.size) u (bts x))
    (B1 : Below wr.heap.size wr w1)
    (hb : w2.ownsRow w.heap.size 5 1 bv' (endL (good ++ [x])) (bts (flatB (good ++ [x])))) (gb : w1.grownBy w2 bv.ownBlock)
    (hg : w3.ownsRow w.heap.size 22 1 gv' (good.length + 1) (gs ++ [u])) (gg : (w2.alloc o1).grownBy w3 gv.ownBlock)
    (he : w4.ownsRow w.heap.size 3 1 ev' (good.length + 1) (endsB (good ++ [x]))) (ge : (w3.alloc o2).grownBy w4 ev.ownBlock) : RowSt w w4 (good ++ [x]) (gs ++ [u]) bv' gv' ev' := by
  have hl : (good ++ [x]).length = good.length + 1 := by simp
  have g1 := owns_next S.g B1
  have e1 := owns_next S.e B1
  have b1 := owns_next S.b B1
  have g2 := owns_grown g1 gb fun c h => owns_ne b1 g1 (by decide) c h
  have e2 := owns_grown e1 gb fun c h => owns_ne b1 e1 (by decide) c h
  have e3 := owns_grown (owns_alloc e2 o1) gg fun c h => owns_ne g2 e2 (by decide) c h
  have hb3 := owns_grown (owns_alloc hb o1) gg fun c h => owns_ne g2 hb (by decide) c h
  have hb4 := owns_grown (owns_alloc hb3 o2) ge fun c h => owns_ne e3 hb3 (by decide) c h
  have hg4 := owns_grown (owns_alloc hg o2) ge fun c h => owns_ne e3 hg (by decide) c h
  refine ⟨fun y hy => ?_, hb4, by simp [S.gl], by rw [hl]; exact hg4, fun i v y hv hy => ?_, by rw [hl]; exact he, ?_⟩
  · rcases List.mem_append.1 hy with h | h
    · exact S.each y h
    · obtain rfl : y = x := by simpa using h
      exact hx
  · rcases Nat.lt_trichotomy i gs.length with h | rfl | h
    · rw [List.getElem?_append_left h] at hv
      rw [List.getElem?_append_left (by rw [← S.gl]; exact h)] at hy
      exact S.gr i v y hv hy
    · rw [List.getElem?_append_right (Nat.le_refl _), Nat.sub_self] at hv
      rw [S.gl, List.getElem?_append_right (Nat.le_refl _), Nat.sub_self] at hy
      obtain rfl : u = v := by simpa using hv
      obtain rfl : x = y := by simpa using hy
      exact hu
    · rw [List.getElem?_eq_none (by simp; omega)] at hv; cases hv
  · have F1 := S.fr
    have F2 : Below w.heap.size w w1 := F1.trans (B1.mono F1.size)
    have F3 : Below w.heap.size w w2 := F2.grown gb F2.size fun k hk => owns_base b1 hk
    have F4 : Below w.heap.size w w3 := (F3.alloc F3.size o1).grown gg (by have := F3.size; simp; omega) fun k hk => owns_base g1 hk
    exact (F4.alloc F4.size o2).grown ge (by have := F4.size; simp; omega) fun k hk => owns_base e1 hk
set_option maxRecDepth 100000 in
set_option maxHeartbeats 1000000 in
theorem row_any {w : World} {v : Value} {l : List (List UInt8)} (h : RowOf w 1 (fun cs (xs : List UInt8) => ∃ v, cs = [v] ∧ Rd w (· < w.heap.size) v (bts xs)) v l) :
    Calls Try.prog 24 #[v] w (RowTo w) := by
  obtain ⟨i0, hi, hz0, hz1, hz2⟩ := info_parts Try.infoB
  obtain ⟨i1, gi, gz0, gz1, gz2⟩ := info_parts Try.infoL
  obtain ⟨i2, ki, kz0, kz1, kz2⟩ := info_parts Try.infoI
  have HR := Lib.hid h
  obtain ⟨A, c, rfl, hlc, hcm, _⟩ := h
  unfold maxLen at hcm
  go_enter Try.func24, Try.ntmps24
  go_wp2_with fail
  go_loopw [5, 6, 7, 8] (RowLp w l) (fun _ _ _ i _ => l.length - (RowKit.intOf i).toNat)
  case atStart => exact ⟨[], [], 0, rfl, Nat.zero_le _, by decide, ⟨fun x hx => by simp at hx, World.ownsRow_nil _ _ _ _, rfl, World.ownsRow_nil _ _ _ _, fun i u x hu => by simp at hu, World.ownsRow_nil _ _ _ _, Below.refl _ w⟩⟩
  case round =>
    obtain ⟨good, gs, i, rfl, hil, hen, S⟩ := hrel
    have HS := Lib.hid S
    have HEN := Lib.hid hen
    obtain ⟨E, hE⟩ : ∃ E, E = endL good := ⟨_, rfl⟩
    have hb := S.b
    rw [← hE] at hb
    have hg := S.g
    obtain ⟨G, hG⟩ : ∃ G, G = good.length := ⟨_, rfl⟩
    have he := S.e
    rw [← hG] at hg he
    have HB := Lib.hid hb
    have HGo := Lib.hid hg
    have HEo := Lib.hid he
    have HE := Lib.hid hE
    have HG := Lib.hid hG
    obtain ⟨A1, c1, rfl⟩ := owned_slice hb
    obtain ⟨A2, c2, rfl⟩ := owned_slice hg
    obtain ⟨A3, c3, rfl⟩ := owned_slice he
    have hE2 : E ≤ 17010 := by omega
    clear hb hg he hE hG S hen
    by_cases hgo : i < l.length ∧ E < 9000
    · obtain ⟨hlt, hE9⟩ := hgo
      have t1 : decide ((i : Int) < l.length) = true := decide_eq_true (by omega)
      have t1' : decide (i < l.length) = true := decide_eq_true hlt
      have t2 : decide ((E : Int) < 9000) = true := decide_eq_true (by omega)
      have t2' : decide (E < 9000) = true := decide_eq_true hE9
      obtain ⟨b, off, u, rfl, ⟨v, hu, hx⟩, hc0, hbl⟩ := HR.out.at1 (Below.refl _ w) hlt
      obtain rfl : u = v := by simpa using hu
      have HX := Lib.hid hx
      generalize l[i] = x at *
      obtain ⟨Ax, cx, rfl, _⟩ := rd_len hx
      clear hx hu hbl
      obtain ⟨X, hX⟩ : ∃ X, X = x.length := ⟨_, rfl⟩
      rw [← hX] at HX hc0
      have HXl := Lib.hid hX
      clear hX
      have HC := Lib.hid hc0
      have hc := cell_next HS.out.fr hc0
      clear hc0
      by_cases h8 : 8000 < X
      · have PL := Lib.hid (fun w => put_long (A := Ax) (n := X) (c := cx) w h8)
        clear h8
        go_wp2_with fail
        refine (PL.out _).mono ?_; rintro e wr ⟨rfl, rfl⟩
        go_wp2_with fail
        go_roundw
        case rel => exact ⟨good, gs, i + 1, by go_num, hlt, HEN.out, by rw [HE.out, HG.out] at *; exact HS.out⟩
        case measure => simp [RowKit.intOf]; omega
      · have hx8 : X ≤ 8000 := by omega
        have HX8 : Hid (x.length ≤ 8000) := by rw [← HXl.out]; exact hx8
        have PO := Lib.hid (put_ok (HX.out.kept HS.out.fr) HX8.out)
        rw [← HXl.out] at PO
        obtain ⟨N7, h7⟩ : ∃ N7, N7 = X + 7 := ⟨_, rfl⟩
        have e7 : IntKind.i64.wrap ((X : Int) + 7) = (N7 : Int) := by rw [IntKind.wrap_i64]; omega
        rw [← h7] at PO
        have H7 := Lib.hid h7
        have hn7 : N7 ≤ 8007 := by omega
        clear h8 h7
        go_wp2_with fail
        refine PO.out.mono ?_; rintro e w1 ⟨v1, rfl, ho1, hb1⟩
        have X1 := Lib.hid (owned_rd ho1)
        have B1 := Lib.hid hb1
        have F1 : Hid (Below w.heap.size w w1) := HS.out.fr.trans (hb1.mono HS.out.fr.size)
        obtain ⟨A4, c4, rfl⟩ := owned_slice ho1
        have hc1 := cell_next F1.out HC.out
        clear ho1 hb1 hc
        go_wp2_with (at_builtin; refine wpList_app rfl _ _ 22 rfl w.heap.size 5 i0 _ 1 1 Try.underlying22 hi hz0 hz1 hz2 rfl (by decide) _ E (bts (flatB good)) rfl ?q0 _ N7 (bts (putB x)) rfl ?q1 (bts_one _) ?q2 ?q3 ?q4 ?_)
        case q0 => exact owns_next HB.out B1.out
        case q1 => have := rd_src X1.out; rw [bts_len, putB_len, ← HXl.out, ← H7.out] at this; exact this
        case q2 => unfold maxLen; omega
        case q3 => omega
        case q4 => exact F1.out.size
        intro v2 w2 ho2 hg2 _
        obtain ⟨E2, hE2'⟩ : ∃ E2, E2 = E + N7 := ⟨_, rfl⟩
        rw [← hE2'] at ho2
        have HE2 : Hid (E2 = endL (good ++ [x])) := by unfold Hid; rw [endL_snoc, hE2', HE.out, H7.out, HXl.out]
        have hl2 : E2 ≤ 17010 := by omega
        rw [← bts_app, ← flatB_snoc] at ho2
        have HO2 := Lib.hid ho2
        have HG2 := Lib.hid hg2
        have F2 : Hid (Below w.heap.size w w2) := F1.out.grown hg2 F1.out.size fun k hk => owns_base HB.out hk
        obtain ⟨A5, c5, rfl⟩ := owned_slice ho2
        have hc2 := cell_next F2.out HC.out
        have hGl : 7 * G ≤ E := by have := endL_len good; rw [← HE.out, ← HG.out] at this; exact this
        clear ho2 hg2 hE2' hc1
        go_wp2_with (at_builtin; refine wpList_append_own _ rfl _ _ 35 rfl w.heap.size 22 i1 _ 1 24 Try.underlying35 gi gz0 gz1 gz2 rfl (by decide) _ G gs rfl ?q6 ⟨w2.heap.size, 0, none⟩ 1 1 [.slice Ax X cx] rfl rfl ?q1 ?q0 ?q2 ?q3 ?q4 ?_)
        case q6 =>
          have hg' := owns_next HGo.out B1.out
          exact owns_alloc (owns_grown hg' HG2.out fun k hk => owns_ne (owns_next HB.out B1.out) hg' (by decide) k hk) _
        case q1 => exact news_alloc w2 [.slice Ax X cx] 22
        case q0 =>
          intro u hu
          obtain rfl : u = .slice Ax X cx := (by simpa using hu)
          rfl
        case q2 => unfold maxLen; omega
        case q3 => omega
        case q4 => have := F2.out.size; simp; omega
        intro v3 w3 ho3 hg3 _
        have HO3 := Lib.hid ho3
        have HG3 := Lib.hid hg3
        have F3 : Hid (Below w.heap.size w w3) := (F2.out.alloc F2.out.size _).grown hg3 (by have := F2.out.size; simp; omega) fun k hk => owns_base HGo.out hk
        obtain ⟨G1, hG1⟩ : ∃ G1, G1 = G + 1 := ⟨_, rfl⟩
        rw [← hG1] at ho3
        obtain ⟨A6, c6, rfl⟩ := owned_slice ho3
        have HG1 := Lib.hid hG1
        clear ho3 hg3 hG1 hc2
        go_wp2_with (at_builtin; refine wpList_append_own _ rfl _ _ 47 rfl w.heap.size 3 i2 _ 1 8 Try.underlying47 ki kz0 kz1 kz2 rfl (by decide) _ G (endsB good) rfl ?q6 ⟨w3.heap.size, 0, none⟩ 1 1 [.int .i64 E2] rfl rfl ?q1 ?q0 ?q2 ?q3 ?q4 ?_)
        case q6 =>
          have hg' := owns_next HGo.out B1.out
          have he' := owns_next HEo.out B1.out
          have hb' := owns_next HB.out B1.out
          have hg2' := owns_grown hg' HG2.out fun k hk => owns_ne hb' hg' (by decide) k hk
          have he2' := owns_grown he' HG2.out fun k hk => owns_ne hb' he' (by decide) k hk
          exact owns_alloc (owns_grown (owns_alloc he2' _) HG3.out fun k hk => owns_ne hg2' he2' (by decide) k hk) _
        case q1 => exact news_alloc w3 [.int .i64 E2] 3
        case q0 =>
          intro u hu
          obtain rfl : u = .int .i64 E2 := (by simpa using hu)
          rfl
        case q2 => unfold maxLen; omega
        case q3 => omega
        case q4 => have := F3.out.size; simp; omega
        intro v4 w4 ho4 hg4 _
        have SN : Hid (RowSt w w4 (good ++ [x]) (gs ++ [.slice Ax X cx]) (.slice A5 E2 c5) (.slice A6 G1 c6) v4) :=
          HS.out.next HX8.out HX.out B1.out (by rw [← HE2.out]; exact HO2.out) HG2.out (by rw [← HG.out]; exact HO3.out) HG3.out (by rw [← HG.out, endsB_snoc, ← HE2.out]; exact ho4) hg4
        have HN : Hid (endL (good ++ [x]) ≤ 17010) := by rw [← HE2.out]; exact hl2
        clear ho4 hg4
        go_wp2_with fail
        go_roundw
        case rel => exact ⟨good ++ [x], gs ++ [.slice Ax X cx], i + 1, by go_num, hlt, HN.out, SN.out⟩
        case measure => simp [RowKit.intOf]; omega
    · by_cases hlt : i < l.length
      · have t1 : decide ((i : Int) < l.length) = true := decide_eq_true (by omega)
        have t1' : decide (i < l.length) = true := decide_eq_true hlt
        have t2 : decide ((E : Int) < 9000) = false := decide_eq_false (by omega)
        have t2' : decide (E < 9000) = false := decide_eq_false (by omega)
        clear hgo
        go_wp2_with fail
        go_returns
        exact ⟨good, gs, _, _, _, rfl, HEN.out, HS.out⟩
      · have t1 : decide ((i : Int) < l.length) = false := decide_eq_false (by omega)
        have t1' : decide (i < l.length) = false := decide_eq_false hlt
        clear hgo
        go_wp2_with fail
        go_returns
        exact ⟨good, gs, _, _, _, rfl, HEN.out, HS.out⟩
end Go.Proofs.Ytbgdhmacpgnfeaa
