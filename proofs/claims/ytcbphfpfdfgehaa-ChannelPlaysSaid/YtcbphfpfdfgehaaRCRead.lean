/-
  What the reference's Read answers, and what it makes of its channel. No conditions but that the reference's channel is one that calls can make.
-/
import Derived.Test.YtcbphfpfdfgehaaRCWrite
import Derived.Lib.AppendZeros
namespace Go.Proofs.Ytcbphfpfdfgehaa
open Go.ChangeShapes Go.WideShapes Go.ChangeAt Go.RowKit

theorem wrow_drop {w : World} {e size g o n c : Nat} {xs : List Value} (h : WRow w e size (.slice (some ⟨g, o, none⟩) n c) n xs) {l : Nat} (hl : l ≤ n) {D : Option Addr} (hD1 : l < c → D = some ⟨g, o + l * size, none⟩) (hD2 : c = l → D = some ⟨g, o, none⟩) :
    WRow w e size (.slice D (n - l) (c - l)) (n - l) (xs.drop (l * size)) ∧ ∀ k, Blk (.slice D (n - l) (c - l)) k → k = g := by
  rcases h.form with ⟨h1, -⟩ | ⟨g', o', c', he, h1, h2, h3, h4, h5⟩
  · simp at h1
  · simp only [Value.slice.injEq, Option.some.injEq, Addr.mk.injEq, and_true, true_and] at he
    obtain ⟨⟨rfl, rfl⟩, rfl⟩ := he
    have hlen : (xs.drop (l * size)).length = (n - l) * size := by rw [List.length_drop, h.len, Nat.sub_mul]
    have hls : l * size ≤ n * size := Nat.mul_le_mul_right _ hl
    by_cases hc : c = l
    · have hn : n - l = 0 := by omega
      rw [hD2 hc]
      refine ⟨⟨hlen, .inr ⟨g, o, c - l, rfl, by omega, by omega, h3, fun j hj => ?_, fun j hj => ?_⟩⟩, fun k hk => by simp [Blk, Value.ownBlock] at hk; exact hk.symm⟩
      · rw [hn] at hj; simp at hj
      · rw [show c - l = 0 by omega] at hj; simp at hj
    · rw [hD1 (by omega)]
      have e1 : (n - l) * size + l * size = n * size := by rw [← Nat.add_mul]; congr 1; omega
      have e2 : (c - l) * size + l * size = c * size := by rw [← Nat.add_mul]; congr 1; omega
      refine ⟨⟨hlen, .inr ⟨g, o + l * size, c - l, rfl, by omega, by omega, h3, fun j hj => ?_, fun j hj => ?_⟩⟩, fun k hk => by simp [Blk, Value.ownBlock] at hk; exact hk.symm⟩
      · rw [Nat.add_assoc, h4 _ (by omega), List.getElem?_drop]
      · rw [Nat.add_assoc]; exact h5 _ (by omega)
theorem qm_cells {w : World} {p : Option Addr} {n c : Nat} {q : QM} {l : List QM} (h : WRow w 38 3 (.slice p n c) n (qcells (q :: l))) (hn : n = (q :: l).length) : ∃ g o, p = some ⟨g, o, none⟩ ∧ n ≤ c ∧ w.cell? ⟨g, o, none⟩ = some (.int .i64 q.m.tx) ∧ w.cell? ⟨g, o + 1, none⟩ = some q.vd ∧ w.cell? ⟨g, o + 2, none⟩ = some q.vh := by
  have h0 : 0 < n := by rw [hn]; simp
  obtain ⟨g, o, c', he, hc, -, -, hce, -⟩ := h.shape h0
  simp only [Value.slice.injEq] at he
  obtain ⟨rfl, -, rfl⟩ := he
  have d0 := hce 0 (by omega)
  have d1 := hce 1 (by omega)
  have d2 := hce 2 (by omega)
  rw [qcells_cons] at d0 d1 d2
  exact ⟨g, o, rfl, hc, d0, d1, d2⟩
section
variable {w0 w w1 w2 : World} {x depth : Nat} {S : Nat → MS} {U V : Nat → Value} {Q : Nat → List QM}
theorem rmk_drop (h : RC w0 w x depth S U V Q) {e : Nat} (he : e < 2) (t : Turn NoBlock w w1) {u : Value} {l : List QM} (hr : WRow w1 38 3 u l.length (qcells l)) (hq : ∀ q ∈ l, QIn w0 q) (hb : ∀ k, Blk u k → Blk (U e) k) (t2 : Turn (fun k => w.heap.size ≤ k) (w1.setCell ⟨x, e, none⟩ u) w2) : RMk w0 w w2 x depth U V (updN S e ⟨(S e).op, l.map (·.m), (S e).ws⟩) := by
  have h1 := h.setU he t hr hq
  have hf : ∀ k, RF x (updN U e u) V k → RF x U V k := fun k hk => by
    rcases hk with hk | ⟨i, hi, hk | hk⟩
    · exact .inl hk
    · by_cases hie : i = e
      · subst hie; rw [updN_same] at hk; exact .inr ⟨i, hi, .inl (hb k hk)⟩
      · rw [updN_other _ _ hie] at hk; exact .inr ⟨i, hi, .inl hk⟩
    · exact .inr ⟨i, hi, .inr hk⟩
  exact ⟨_, _, _, h1.kept t2 (fun k hk hg => by have := h.lt (hf k hk); omega), ((TU (F := fun k => k = x) t).setCell (p := ⟨x, e, none⟩) (.inl rfl) _).trans t2 (fun k hk => .inr hk), fun k hk => .inl (hf k hk)⟩
/-- What Read tells: a message that can be read. -/
def QTold (w' : World) (v : Value) (m : Msg) : Prop := ∃ vd vh, v = .agg #[.int .i64 m.tx, vd, vh] ∧ RzB w' vd m.d ∧ RzI w' vh m.h
theorem cr_no0 (b i : Int) (st : Int) (hst : (st = -24 ∧ (S 0).op = false) ∨ (st = -10 ∧ (S 0).op = true ∧ (b < 0 ∨ i < 0)) ∨ (st = -24 ∧ (S 0).op = true ∧ ¬ (b < 0 ∨ i < 0) ∧ (S 0).q = [] ∧ (S 1).op = false) ∨ (st = -22 ∧ (S 0).op = true ∧ ¬ (b < 0 ∨ i < 0) ∧ (S 0).q = [] ∧ (S 1).op = true)) :
    crS S 0 b i = st ∧ crM S 0 b i = ⟨0, [], []⟩ ∧ crK S 0 b i = S := by
  have key : ∀ st : Int, st ≠ 0 → st ≠ -15 → crS S 0 b i = st → crS S 0 b i = st ∧ crM S 0 b i = ⟨0, [], []⟩ ∧ crK S 0 b i = S := fun st h0 h1 hs => by
    refine ⟨hs, ?_, ?_⟩
    · unfold crM; rw [hs, if_neg h0, if_neg h1]
    · unfold crK; rw [hs, if_neg h0]
  rcases hst with ⟨rfl, h1⟩ | ⟨rfl, h1, h2⟩ | ⟨rfl, h1, h2, h3, h4⟩ | ⟨rfl, h1, h2, h3, h4⟩
  · exact key _ (by decide) (by decide) (by unfold crS; rw [if_pos h1])
  · exact key _ (by decide) (by decide) (by unfold crS; rw [if_neg (by rw [h1]; decide), if_pos h2])
  · exact key _ (by decide) (by decide) (by unfold crS; rw [if_neg (by rw [h1]; decide), if_neg h2, h3, show oth 0 = 1 from rfl, h4]; rfl)
  · exact key _ (by decide) (by decide) (by unfold crS; rw [if_neg (by rw [h1]; decide), if_neg h2, h3, show oth 0 = 1 from rfl, h4]; rfl)
set_option maxRecDepth 20000 in
theorem rread_no0 (h : RC w0 w x depth S U V Q) (b i : Int) (st : Int) (hst : (st = -24 ∧ (S 0).op = false) ∨ (st = -10 ∧ (S 0).op = true ∧ (b < 0 ∨ i < 0)) ∨ (st = -24 ∧ (S 0).op = true ∧ ¬ (b < 0 ∨ i < 0) ∧ (S 0).q = [] ∧ (S 1).op = false) ∨ (st = -22 ∧ (S 0).op = true ∧ ¬ (b < 0 ∨ i < 0) ∧ (S 0).q = [] ∧ (S 1).op = true)) :
    Calls Try.prog 40 #[.pointer (some ⟨x, 0, none⟩), .int .i64 0, .int .i64 b, .int .i64 i] w fun y w' => y = .returned (.tuple #[.agg #[.int .i64 0, .slice none 0 0, .slice none 0 0], .int .i64 st]) ∧ Turn NoBlock w w' := by
  have CK := Lib.hid (fun W (t : Turn NoBlock w W) => rcheck0 (h.past t) (S 0).op rfl)
  have e1 : w.cell? ⟨x, 5, none⟩ = some (.bool (!(S 1).op)) := h.cc 1 (by omega)
  have e2 : w.cell? ⟨x, 0, none⟩ = some (U 0) := h.cu 0 (by omega)
  obtain ⟨p, c, hv⟩ := (h.ru 0 (by omega)).sl
  have hq : (Q 0).length = (S 0).q.length := by rw [← h.mp 0 (by omega), List.length_map]
  rw [hv, hq] at e2
  have t1 := (Turn.refl NoBlock w).alloc (.cells #[.int .i64 0, .slice none 0 0, .slice none 0 0] 38)
  have d1 := t1.cell e1 (fun h => h)
  have d2 := t1.cell e2 (fun h => h)
  have lx := Nat.lt_of_lt_of_le h.typ.lt t1.size
  clear h hv hq e1 e2 t1
  rcases hst with ⟨rfl, h1⟩ | ⟨rfl, h1, h2⟩ | ⟨rfl, h1, h2, h3, h4⟩ | ⟨rfl, h1, h2, h3, h4⟩
  · rw [h1] at CK
    go_enter Try.func40, Try.ntmps40
    go_wp2_with (go_at_call 53; (with_reducible refine (CK.out _ ((Turn.refl _ _).alloc _)).mono ?_); rintro y w' ⟨rfl, rfl⟩)
    refine bodyPost_ret (v := .tuple #[.agg #[.int .i64 0, .slice none 0 0, .slice none 0 0], .int .i64 (-24)]) (by rw [results_ct rfl]; go_simp) rfl ⟨rfl, (Turn.refl _ w).alloc _⟩
  · rw [h1] at CK
    have two : b < 0 ∨ (¬ b < 0 ∧ i < 0) := by omega
    clear h1 h2
    rcases two with g1 | ⟨g1, g2⟩
    all_goals
      go_enter Try.func40, Try.ntmps40
      go_wp2_with (go_at_call 53; (with_reducible refine (CK.out _ ((Turn.refl _ _).alloc _)).mono ?_); rintro y w' ⟨rfl, rfl⟩)
      refine bodyPost_ret (v := .tuple #[.agg #[.int .i64 0, .slice none 0 0, .slice none 0 0], .int .i64 (-10)]) (by rw [results_ct rfl]; go_simp) rfl ⟨rfl, (Turn.refl _ w).alloc _⟩
  · rw [h1] at CK
    have g1 : ¬ b < 0 := by omega
    have g2 : ¬ i < 0 := by omega
    rw [h3] at d2
    rw [h4] at d1
    clear h1 h2 h3 h4
    go_enter Try.func40, Try.ntmps40
    go_wp2_with (go_at_call 53; (with_reducible refine (CK.out _ ((Turn.refl _ _).alloc _)).mono ?_); rintro y w' ⟨rfl, rfl⟩)
    refine bodyPost_ret (v := .tuple #[.agg #[.int .i64 0, .slice none 0 0, .slice none 0 0], .int .i64 (-24)]) (by rw [results_ct rfl]; go_simp) rfl ⟨rfl, (Turn.refl _ w).alloc _⟩
  · rw [h1] at CK
    have g1 : ¬ b < 0 := by omega
    have g2 : ¬ i < 0 := by omega
    rw [h3] at d2
    rw [h4] at d1
    clear h1 h2 h3 h4
    go_enter Try.func40, Try.ntmps40
    go_wp2_with (go_at_call 53; (with_reducible refine (CK.out _ ((Turn.refl _ _).alloc _)).mono ?_); rintro y w' ⟨rfl, rfl⟩)
    refine bodyPost_ret (v := .tuple #[.agg #[.int .i64 0, .slice none 0 0, .slice none 0 0], .int .i64 (-22)]) (by rw [results_ct rfl]; go_simp) rfl ⟨rfl, (Turn.refl _ w).alloc _⟩
theorem cr_ok0 (b i : Int) {m : Msg} {r : List Msg} (ho : (S 0).op = true) (hn : ¬ (b < 0 ∨ i < 0)) (hq : (S 0).q = m :: r) (hb : ¬ (b < m.d.length ∨ i < m.h.length)) :
    crS S 0 b i = 0 ∧ crM S 0 b i = m ∧ crK S 0 b i = updN S 0 ⟨(S 0).op, r, (S 0).ws⟩ := by
  have hs : crS S 0 b i = 0 := by unfold crS; rw [if_neg (by rw [ho]; decide), if_neg hn, hq]; simp only [if_neg hb]
  refine ⟨hs, ?_, ?_⟩
  · unfold crM; rw [if_pos hs, hq]
  · unfold crK; rw [if_pos hs, hq]; rfl
theorem cr_big0 (b i : Int) {m : Msg} {r : List Msg} (ho : (S 0).op = true) (hn : ¬ (b < 0 ∨ i < 0)) (hq : (S 0).q = m :: r) (hb : b < m.d.length ∨ i < m.h.length) :
    crS S 0 b i = -15 ∧ crM S 0 b i = m.blank ∧ crK S 0 b i = S := by
  have hs : crS S 0 b i = -15 := by unfold crS; rw [if_neg (by rw [ho]; decide), if_neg hn, hq]; simp only [if_pos hb]
  refine ⟨hs, ?_, ?_⟩
  · unfold crM; rw [hs, if_neg (by decide), if_pos rfl, hq]
  · unfold crK; rw [hs, if_neg (by decide)]
set_option maxRecDepth 20000 in
set_option maxHeartbeats 2000000 in
theorem rread_ok0 (h : RC w0 w x depth S U V Q) (b i : Int) (ho : (S 0).op = true) (hn : ¬ (b < 0 ∨ i < 0)) {q : QM} {r : List QM} (hq : Q 0 = q :: r) (hb : ¬ (b < q.m.d.length ∨ i < q.m.h.length)) (hl : r.length ≤ 1000000) :
    Calls Try.prog 40 #[.pointer (some ⟨x, 0, none⟩), .int .i64 0, .int .i64 b, .int .i64 i] w fun y w' => y = .returned (.tuple #[q.agg, .int .i64 0]) ∧ RMk w0 w w' x depth U V (updN S 0 ⟨(S 0).op, r.map (·.m), (S 0).ws⟩) := by
  have CK := Lib.hid (fun W (t : Turn NoBlock w W) => show Calls Try.prog 53 #[.pointer (some ⟨x, 0, none⟩), .int .i64 0] W fun y w' => y = .returned (.int .i64 0) ∧ W = w' from rcheck0 (h.past t) true ho)
  have e1 : w.cell? ⟨x, 0, none⟩ = some (U 0) := h.cu 0 (by omega)
  have hr := h.ru 0 (by omega)
  obtain ⟨p, c, hv⟩ := hr.sl
  have hqi := h.rd 0 (by omega) q (by rw [hq]; exact List.mem_cons_self)
  obtain ⟨n, hnl⟩ : ∃ n, (Q 0).length = n := ⟨_, rfl⟩
  have hn1 : n = (q :: r).length := by rw [← hq]; exact hnl.symm
  rw [hv, hnl] at hr
  rw [hv, hnl] at e1
  have hr' := hr
  rw [hq] at hr'
  obtain ⟨g, o, rfl, hnc, k0, k1, k2⟩ := qm_cells hr' hn1
  obtain ⟨pd, cd, hvd⟩ := hqi.d.sl
  obtain ⟨ph, ch, hvh⟩ := hqi.h.sl
  obtain ⟨E, hE, hE1, hE2⟩ := sl_lo 28 3 elem_rmsgs size_rmsgs g o n c 1 (by rw [hn1]; simp) hnc
  have hsl : ∀ w, Sem.run Try.prog (Instr.slice 28 (.slice (some ⟨g, o, none⟩) n c) (some (.int .i64 1)) none none) w = .ok (.slice E (n - 1) (c - 1)) w := hE
  have HE := Lib.hid (And.intro hE1 (And.intro hE2 (And.intro hr (And.intro hn1 (And.intro hv hq)))))
  have g1 : ¬ b < 0 := by omega
  have g2 : ¬ i < 0 := by omega
  have g3 : ¬ b < (q.m.d.length : Int) := by omega
  have g4 : ¬ i < (q.m.h.length : Int) := by omega
  rw [hvd] at k1
  rw [hvh] at k2
  have HQ := Lib.hid (show q.agg = .agg #[.int .i64 q.m.tx, .slice pd q.m.d.length cd, .slice ph q.m.h.length ch] by unfold QM.agg; rw [hvd, hvh])
  obtain ⟨nd, hnd⟩ : ∃ k, q.m.d.length = k := ⟨_, rfl⟩
  obtain ⟨nh, hnh⟩ : ∃ k, q.m.h.length = k := ⟨_, rfl⟩
  obtain ⟨tx, htx⟩ : ∃ k, q.m.tx = k := ⟨_, rfl⟩
  rw [hnd] at g3 k1 HQ
  rw [hnh] at g4 k2 HQ
  rw [htx] at k0 HQ
  have nl : (n : Int) ≤ 1000001 := by have := hn1; simp at this; omega
  have nn : ((n : Int) == 0) = false := by rw [beq_eq_false_iff_ne]; have := hn1; simp at this; omega
  have nn0 : (0 : Int) < n := by have := hn1; simp at this; omega
  have nn1 : 0 < n := by omega
  have HH := Lib.hid h
  obtain ⟨R, hR⟩ : ∃ R, w.heap.size = R := ⟨_, rfl⟩
  have t1 := (Turn.refl NoBlock w).alloc (.cells #[.int .i64 0, .slice none 0 0, .slice none 0 0] 38)
  have e1 := t1.cell e1 (fun h => h)
  have k0 := t1.cell k0 (fun h => h)
  have k1 := t1.cell k1 (fun h => h)
  have k2 := t1.cell k2 (fun h => h)
  have lx := Nat.lt_of_lt_of_le h.typ.lt t1.size
  have r0 : ((w.alloc (.cells #[.int .i64 0, .slice none 0 0, .slice none 0 0] 38)).alloc (.cells #[.int .i64 tx, .slice pd nd cd, .slice ph nh ch] 38)).heap[R]? = some (.cells #[.int .i64 0, .slice none 0 0, .slice none 0 0] 38 (0, 0)) := by rw [← hR]; exact (Below.heap_alloc _ _ _ (by simp)).trans (heap_alloc_new w _)
  have m0 : ((w.alloc (.cells #[.int .i64 0, .slice none 0 0, .slice none 0 0] 38)).alloc (.cells #[.int .i64 tx, .slice pd nd cd, .slice ph nh ch] 38)).heap[R + 1]? = some (.cells #[.int .i64 tx, .slice pd nd cd, .slice ph nh ch] 38 (0, 0)) := by
    have := heap_alloc_new (w.alloc (.cells #[.int .i64 0, .slice none 0 0, .slice none 0 0] 38)) (.cells #[.int .i64 tx, .slice pd nd cd, .slice ph nh ch] 38)
    rw [World.size_alloc, hR] at this
    exact this
  have H0 := Lib.hid (And.intro r0 (And.intro m0 (show Turn NoBlock w ((w.alloc (.cells #[.int .i64 0, .slice none 0 0, .slice none 0 0] 38)).alloc (.cells #[.int .i64 tx, .slice pd nd cd, .slice ph nh ch] 38)) from ((Turn.refl _ w).alloc _).alloc _)))
  clear h hr hr' hv hqi hq hb hn hnl hn1 hE hE1 hE2 hvd hvh hnd hnh htx hl ho t1 r0 m0 hnc
  go_enter Try.func40, Try.ntmps40
  go_upto_region 13 with (go_at_call 53; (with_reducible refine (CK.out _ ((Turn.refl _ _).alloc _)).mono ?_); rintro y w' ⟨rfl, rfl⟩)
  generalize (w.alloc (.cells #[.int .i64 0, .slice none 0 0, .slice none 0 0] 38)).alloc (.cells #[.int .i64 tx, .slice pd nd cd, .slice ph nh ch] 38) = W2 at *
  have e1 := H0.out.2.2.cell (HH.out.cu 0 (by omega)) (fun h => h)
  rw [HE.out.2.2.2.2.1] at e1
  have hnq : (Q 0).length = n := by rw [HE.out.2.2.2.1, HE.out.2.2.2.2.2]
  rw [hnq] at e1
  have ty := HH.out.typ.kept H0.out.2.2 (fun h => h)
  have fx := ty.free 0
  have lx := ty.lt
  clear hnq k0 k1 k2
  go_region
  have hRx : R ≠ x := by have := HH.out.typ.lt; omega
  have hRx1 : R + 1 ≠ x := by have := HH.out.typ.lt; omega
  have TX : Turn (fun k => k = x) W2 (W2.setCell ⟨x, 0, none⟩ (.slice E (n - 1) (c - 1))).drew := ((Turn.refl (fun k => k = x) W2).setCell (p := ⟨x, 0, none⟩) (.inl rfl) _).drew
  have r0 := TX.heap H0.out.1 hRx
  have m0 := TX.heap H0.out.2.1 hRx1
  have HM := Lib.hid (show ∀ W, Turn (fun k => w.heap.size ≤ k) (W2.setCell ⟨x, 0, none⟩ (.slice E (n - 1) (c - 1))).drew W → RMk w0 w W x depth U V (updN S 0 ⟨(S 0).op, r.map (·.m), (S 0).ws⟩) from fun W t2 => by
    have hd := wrow_drop (HE.out.2.2.1.past H0.out.2.2) (l := 1) (by omega) HE.out.1 HE.out.2.1
    have hlen : n - 1 = r.length := by have := HE.out.2.2.2.1; simp at this; omega
    exact rmk_drop HH.out (e := 0) (by omega) H0.out.2.2 (l := r) (by rw [← hlen]; have h1 := hd.1; rw [HE.out.2.2.2.2.2, qcells_cons] at h1; exact h1) (fun q2 hq2 => HH.out.rd 0 (by omega) q2 (by rw [HE.out.2.2.2.2.2]; exact List.mem_cons_of_mem _ hq2)) (fun k hk => by rw [HE.out.2.2.2.2.1, hd.2 k hk]; simp [Blk, Value.ownBlock]) ((Turn.refl (fun k => w.heap.size ≤ k) _).drew.trans t2 (fun _ h => .inl h)))
  generalize (W2.setCell ⟨x, 0, none⟩ (.slice E (n - 1) (c - 1))).drew = W3 at *
  obtain ⟨x0, x1, x2⟩ := box3 r0
  obtain ⟨y0, y1, y2⟩ := box3 m0
  have f0 := free_at r0 0
  have f1 := free_at r0 1
  have f2 := free_at r0 2
  have l0 := lt_of_block r0
  have l1 := lt_of_block m0
  have HR := Lib.hid hR
  clear TX r0 m0 e1 ty fx lx
  go_wp2
  refine bodyPost_ret (v := .tuple #[.agg #[.int .i64 tx, .slice pd nd cd, .slice ph nh ch], .int .i64 0]) (by rw [results_ct rfl]; go_simp) rfl ⟨by rw [HQ.out], HM.out _ ((((Turn.refl _ W3).setCell (p := ⟨R, 0, none⟩) (.inl (Nat.le_of_eq HR.out)) _).setCell (p := ⟨R, 1, none⟩) (.inl (Nat.le_of_eq HR.out)) _).setCell (p := ⟨R, 2, none⟩) (.inl (Nat.le_of_eq HR.out)) _)⟩
set_option maxRecDepth 20000 in
set_option maxHeartbeats 2000000 in
theorem rread_big0 (h : RC w0 w x depth S U V Q) (b i : Int) (ho : (S 0).op = true) (hn : ¬ (b < 0 ∨ i < 0)) {q : QM} {r : List QM} (hq : Q 0 = q :: r) (hb : b < q.m.d.length ∨ i < q.m.h.length) (hl : r.length ≤ 1000000) :
    Calls Try.prog 40 #[.pointer (some ⟨x, 0, none⟩), .int .i64 0, .int .i64 b, .int .i64 i] w fun y w' => ∃ v, y = .returned (.tuple #[v, .int .i64 (-15)]) ∧ QTold w' v q.m.blank ∧ Turn NoBlock w w' := by
  have CK := Lib.hid (fun W (t : Turn NoBlock w W) => show Calls Try.prog 53 #[.pointer (some ⟨x, 0, none⟩), .int .i64 0] W fun y w' => y = .returned (.int .i64 0) ∧ W = w' from rcheck0 (h.past t) true ho)
  obtain ⟨i5, hi5, hz5, hs5, hb5⟩ := info_parts infoB
  obtain ⟨i3, hi3, hz3, hs3, hb3⟩ := info_parts infoI
  have e1 : w.cell? ⟨x, 0, none⟩ = some (U 0) := h.cu 0 (by omega)
  have hr := h.ru 0 (by omega)
  obtain ⟨p, c, hv⟩ := hr.sl
  have hqi := h.rd 0 (by omega) q (by rw [hq]; exact List.mem_cons_self)
  have hf1 := hqi.fits.1
  have hf2 := hqi.fits.2
  obtain ⟨n, hnl⟩ : ∃ n, (Q 0).length = n := ⟨_, rfl⟩
  have hn1 : n = (q :: r).length := by rw [← hq]; exact hnl.symm
  rw [hv, hnl] at hr
  rw [hv, hnl] at e1
  rw [hq] at hr
  obtain ⟨g, o, rfl, hnc, k0, k1, k2⟩ := qm_cells hr hn1
  obtain ⟨pd, cd, hvd⟩ := hqi.d.sl
  obtain ⟨ph, ch, hvh⟩ := hqi.h.sl
  have g1 : ¬ b < 0 := by omega
  have g2 : ¬ i < 0 := by omega
  rw [hvd] at k1
  rw [hvh] at k2
  rw [show q.m.blank = ⟨0, List.replicate q.m.d.length 0, List.replicate q.m.h.length 0⟩ from rfl]
  obtain ⟨nd, hnd⟩ : ∃ k, q.m.d.length = k := ⟨_, rfl⟩
  obtain ⟨nh, hnh⟩ : ∃ k, q.m.h.length = k := ⟨_, rfl⟩
  obtain ⟨tx, htx⟩ : ∃ k, q.m.tx = k := ⟨_, rfl⟩
  rw [hnd] at k1 hb hf1 ⊢
  rw [hnh] at k2 hb hf2 ⊢
  rw [htx] at k0
  have nl : (n : Int) ≤ 1000001 := by have := hn1; simp at this; omega
  have nn : ((n : Int) == 0) = false := by rw [beq_eq_false_iff_ne]; have := hn1; simp at this; omega
  have nn0 : (0 : Int) < n := by have := hn1; simp at this; omega
  have nn1 : 0 < n := by omega
  obtain ⟨R, hR⟩ : ∃ R, w.heap.size = R := ⟨_, rfl⟩
  have t1 := (Turn.refl NoBlock w).alloc (.cells #[.int .i64 0, .slice none 0 0, .slice none 0 0] 38)
  have e1 := t1.cell e1 (fun h => h)
  have k0 := t1.cell k0 (fun h => h)
  have k1 := t1.cell k1 (fun h => h)
  have k2 := t1.cell k2 (fun h => h)
  have lx := Nat.lt_of_lt_of_le h.typ.lt t1.size
  have r0 : ((w.alloc (.cells #[.int .i64 0, .slice none 0 0, .slice none 0 0] 38)).alloc (.cells #[.int .i64 tx, .slice pd nd cd, .slice ph nh ch] 38)).heap[R]? = some (.cells #[.int .i64 0, .slice none 0 0, .slice none 0 0] 38 (0, 0)) := by rw [← hR]; exact (Below.heap_alloc _ _ _ (by simp)).trans (heap_alloc_new w _)
  have m0 : ((w.alloc (.cells #[.int .i64 0, .slice none 0 0, .slice none 0 0] 38)).alloc (.cells #[.int .i64 tx, .slice pd nd cd, .slice ph nh ch] 38)).heap[R + 1]? = some (.cells #[.int .i64 tx, .slice pd nd cd, .slice ph nh ch] 38 (0, 0)) := by
    have := heap_alloc_new (w.alloc (.cells #[.int .i64 0, .slice none 0 0, .slice none 0 0] 38)) (.cells #[.int .i64 tx, .slice pd nd cd, .slice ph nh ch] 38)
    rw [World.size_alloc, hR] at this
    exact this
  have T0 : Turn NoBlock w ((w.alloc (.cells #[.int .i64 0, .slice none 0 0, .slice none 0 0] 38)).alloc (.cells #[.int .i64 tx, .slice pd nd cd, .slice ph nh ch] 38)) := ((Turn.refl _ w).alloc _).alloc _
  have hsz : ((w.alloc (.cells #[.int .i64 0, .slice none 0 0, .slice none 0 0] 38)).alloc (.cells #[.int .i64 tx, .slice pd nd cd, .slice ph nh ch] 38)).heap.size = R + 2 := by simp [hR]
  have H0 := Lib.hid (And.intro r0 (And.intro m0 (And.intro T0 hsz)))
  have two : b < nd ∨ (¬ b < nd ∧ i < nh) := by omega
  have HF := Lib.hid (And.intro hf1 (And.intro hf2 (And.intro hi5 (And.intro hz5 (And.intro hs5 (And.intro hb5 (And.intro hi3 (And.intro hz3 (And.intro hs3 hb3)))))))))
  have HR := Lib.hid hR
  clear h hr hv hqi hq hb hn hnl hn1 hvd hvh hnd hnh htx hl ho t1 r0 m0 hnc T0 hsz hf1 hf2 hi5 hz5 hs5 hb5 hi3 hz3 hs3 hb3
  rcases two with g3 | ⟨g3, g4⟩
  all_goals
    go_enter Try.func40, Try.ntmps40
    go_upto_region 12 with (go_at_call 53; (with_reducible refine (CK.out _ ((Turn.refl _ _).alloc _)).mono ?_); rintro y w' ⟨rfl, rfl⟩)
    generalize (w.alloc (.cells #[.int .i64 0, .slice none 0 0, .slice none 0 0] 38)).alloc (.cells #[.int .i64 tx, .slice pd nd cd, .slice ph nh ch] 38) = W at *
    obtain ⟨hf1, hf2, hi5, hz5, hs5, hb5, hi3, hz3, hs3, hb3⟩ := HF.out
    obtain ⟨W1, hm1, ho1, hg1⟩ := run_make_full (P := Try.prog) W.drew 0 35 5 i5 _ 1 bytesT hi5 hz5 hs5 .i64 .i64 nd (by rw [hb5]; omega) (by unfold maxLen; omega) (Nat.zero_le _)
    obtain ⟨W2, hm2, ho2, hg2⟩ := run_make_full (P := Try.prog) W1 0 36 3 i3 _ 1 intsT hi3 hz3 hs3 .i64 .i64 nh (by rw [hb3]; omega) (by unfold maxLen; omega) (Nat.zero_le _)
    obtain ⟨V1, jm1, jo1, jg1⟩ := run_make_full (P := Try.prog) W.drew 0 36 3 i3 _ 1 intsT hi3 hz3 hs3 .i64 .i64 nh (by rw [hb3]; omega) (by unfold maxLen; omega) (Nat.zero_le _)
    obtain ⟨V2, jm2, jo2, jg2⟩ := run_make_full (P := Try.prog) V1 0 35 5 i5 _ 1 bytesT hi5 hz5 hs5 .i64 .i64 nd (by rw [hb5]; omega) (by unfold maxLen; omega) (Nat.zero_le _)
    have u1 : Turn NoBlock W W1 := TT (Turn.refl NoBlock W).drew (turn_grown hg1)
    have u2 : Turn NoBlock W W2 := TT u1 (turn_grown hg2)
    have v1 : Turn NoBlock W V1 := TT (Turn.refl NoBlock W).drew (turn_grown jg1)
    have v2 : Turn NoBlock W V2 := TT v1 (turn_grown jg2)
    have b0 := H0.out.2.1
    have r0 := H0.out.1
    have s0 := box3 b0
    have s1 := box3 (u1.heap b0 (fun h => h))
    have s2 := box3 (u2.heap b0 (fun h => h))
    have s3 := box3 (v1.heap b0 (fun h => h))
    have s4 := box3 (v2.heap b0 (fun h => h))
    obtain ⟨x0, x1, x3⟩ := box3 (u2.heap r0 (fun h => h))
    obtain ⟨y0, y1, y3⟩ := box3 (v2.heap r0 (fun h => h))
    have f0 := free_at (u2.heap r0 (fun h => h)) 0
    have f1 := free_at (u2.heap r0 (fun h => h)) 1
    have f2 := free_at (u2.heap r0 (fun h => h)) 2
    have z0 := free_at (v2.heap r0 (fun h => h)) 0
    have z1 := free_at (v2.heap r0 (fun h => h)) 1
    have z2 := free_at (v2.heap r0 (fun h => h)) 2
    have HB := Lib.hid (fun W' (t : Turn (fun k => k = R) W W') => box3 (t.heap b0 (fun h => by omega)))
    have hgs : W.drew.heap.size = R + 2 := H0.out.2.2.2
    have X := Lib.hid (And.intro (Byts.past (made_bytes ho1) (turn_grown hg2)) (And.intro (made_nums ho2) (And.intro u2 u1.size)))
    have Y := Lib.hid (And.intro (made_bytes jo2) (And.intro (Nums.past (made_nums jo1) (turn_grown jg2)) (And.intro v2 v1.size)))
    have HG := Lib.hid hgs
    clear b0 r0 ho1 ho2 hg1 hg2 u1 u2 jo1 jo2 jg1 jg2 v1 v2 hgs e1 k0 k1 k2 lx hf1 hf2 hi5 hz5 hs5 hb5 hi3 hz3 hs3 hb3
    go_region_held3 (fun w' => (w'.cell? ⟨R + 1, 0, none⟩ = some (.int .i64 tx) ∧ w'.cell? ⟨R + 1, 1, none⟩ = some (.slice pd nd cd) ∧ w'.cell? ⟨R + 1, 2, none⟩ = some (.slice ph nh ch)))
      (first | exact s0 | exact s1 | exact s2 | exact s3 | exact s4 | exact HB.out _ (turn_set3 X.out.2.2.1) | exact HB.out _ (turn_set3 Y.out.2.2.1))
      (fail)
    · go_wp2
      have q1 := X.out.2.2.2
      have q2 := HG.out
      have q3 : W.drew.heap.size = W.heap.size := rfl
      have q4 := HR.out
      refine bodyPost_ret (v := .tuple #[.agg #[.int .i64 0, .slice (some ⟨W.drew.heap.size, 0, none⟩) nd nd, .slice (some ⟨W1.heap.size, 0, none⟩) nh nh], .int .i64 (-15)]) (by rw [results_ct rfl]; go_simp) rfl ⟨_, rfl, ⟨_, _, rfl, ?_, ?_⟩, ?_⟩
      · exact RdB.rz (Byts.rd (X.out.1.kept (turn_set3 (R := R) (Turn.refl _ _)) (fun k hk => by simp [Blk, Value.ownBlock] at hk; omega)))
      · exact RdI.rz (Nums.rd (X.out.2.1.kept (turn_set3 (R := R) (Turn.refl _ _)) (fun k hk => by simp [Blk, Value.ownBlock] at hk; omega)))
      · exact (TT H0.out.2.2.1 X.out.2.2.1).trans (turn_set3 (R := R) (Turn.refl _ _)) (fun k hk => .inr (by omega))
    · go_wp2
      have q1 := Y.out.2.2.2
      have q2 := HG.out
      have q3 : W.drew.heap.size = W.heap.size := rfl
      have q4 := HR.out
      refine bodyPost_ret (v := .tuple #[.agg #[.int .i64 0, .slice (some ⟨V1.heap.size, 0, none⟩) nd nd, .slice (some ⟨W.drew.heap.size, 0, none⟩) nh nh], .int .i64 (-15)]) (by rw [results_ct rfl]; go_simp) rfl ⟨_, rfl, ⟨_, _, rfl, ?_, ?_⟩, ?_⟩
      · exact RdB.rz (Byts.rd (Y.out.1.kept (turn_set3 (R := R) (Turn.refl _ _)) (fun k hk => by simp [Blk, Value.ownBlock] at hk; omega)))
      · exact RdI.rz (Nums.rd (Y.out.2.1.kept (turn_set3 (R := R) (Turn.refl _ _)) (fun k hk => by simp [Blk, Value.ownBlock] at hk; omega)))
      · exact (TT H0.out.2.2.1 Y.out.2.2.1).trans (turn_set3 (R := R) (Turn.refl _ _)) (fun k hk => .inr (by omega))
theorem cr_no1 (b i : Int) (st : Int) (hst : (st = -24 ∧ (S 1).op = false) ∨ (st = -10 ∧ (S 1).op = true ∧ (b < 0 ∨ i < 0)) ∨ (st = -24 ∧ (S 1).op = true ∧ ¬ (b < 0 ∨ i < 0) ∧ (S 1).q = [] ∧ (S 0).op = false) ∨ (st = -22 ∧ (S 1).op = true ∧ ¬ (b < 0 ∨ i < 0) ∧ (S 1).q = [] ∧ (S 0).op = true)) :
    crS S 1 b i = st ∧ crM S 1 b i = ⟨0, [], []⟩ ∧ crK S 1 b i = S := by
  have key : ∀ st : Int, st ≠ 0 → st ≠ -15 → crS S 1 b i = st → crS S 1 b i = st ∧ crM S 1 b i = ⟨0, [], []⟩ ∧ crK S 1 b i = S := fun st h0 h1 hs => by
    refine ⟨hs, ?_, ?_⟩
    · unfold crM; rw [hs, if_neg h0, if_neg h1]
    · unfold crK; rw [hs, if_neg h0]
  rcases hst with ⟨rfl, h1⟩ | ⟨rfl, h1, h2⟩ | ⟨rfl, h1, h2, h3, h4⟩ | ⟨rfl, h1, h2, h3, h4⟩
  · exact key _ (by decide) (by decide) (by unfold crS; rw [if_pos h1])
  · exact key _ (by decide) (by decide) (by unfold crS; rw [if_neg (by rw [h1]; decide), if_pos h2])
  · exact key _ (by decide) (by decide) (by unfold crS; rw [if_neg (by rw [h1]; decide), if_neg h2, h3, show oth 1 = 0 from rfl, h4]; rfl)
  · exact key _ (by decide) (by decide) (by unfold crS; rw [if_neg (by rw [h1]; decide), if_neg h2, h3, show oth 1 = 0 from rfl, h4]; rfl)
set_option maxRecDepth 20000 in
theorem rread_no1 (h : RC w0 w x depth S U V Q) (b i : Int) (st : Int) (hst : (st = -24 ∧ (S 1).op = false) ∨ (st = -10 ∧ (S 1).op = true ∧ (b < 0 ∨ i < 0)) ∨ (st = -24 ∧ (S 1).op = true ∧ ¬ (b < 0 ∨ i < 0) ∧ (S 1).q = [] ∧ (S 0).op = false) ∨ (st = -22 ∧ (S 1).op = true ∧ ¬ (b < 0 ∨ i < 0) ∧ (S 1).q = [] ∧ (S 0).op = true)) :
    Calls Try.prog 40 #[.pointer (some ⟨x, 0, none⟩), .int .i64 1, .int .i64 b, .int .i64 i] w fun y w' => y = .returned (.tuple #[.agg #[.int .i64 0, .slice none 0 0, .slice none 0 0], .int .i64 st]) ∧ Turn NoBlock w w' := by
  have CK := Lib.hid (fun W (t : Turn NoBlock w W) => rcheck1 (h.past t) (S 1).op rfl)
  have e1 : w.cell? ⟨x, 4, none⟩ = some (.bool (!(S 0).op)) := h.cc 0 (by omega)
  have e2 : w.cell? ⟨x, 1, none⟩ = some (U 1) := h.cu 1 (by omega)
  obtain ⟨p, c, hv⟩ := (h.ru 1 (by omega)).sl
  have hq : (Q 1).length = (S 1).q.length := by rw [← h.mp 1 (by omega), List.length_map]
  rw [hv, hq] at e2
  have t1 := (Turn.refl NoBlock w).alloc (.cells #[.int .i64 0, .slice none 0 0, .slice none 0 0] 38)
  have d1 := t1.cell e1 (fun h => h)
  have d2 := t1.cell e2 (fun h => h)
  have lx := Nat.lt_of_lt_of_le h.typ.lt t1.size
  clear h hv hq e1 e2 t1
  rcases hst with ⟨rfl, h1⟩ | ⟨rfl, h1, h2⟩ | ⟨rfl, h1, h2, h3, h4⟩ | ⟨rfl, h1, h2, h3, h4⟩
  · rw [h1] at CK
    go_enter Try.func40, Try.ntmps40
    go_wp2_with (go_at_call 53; (with_reducible refine (CK.out _ ((Turn.refl _ _).alloc _)).mono ?_); rintro y w' ⟨rfl, rfl⟩)
    refine bodyPost_ret (v := .tuple #[.agg #[.int .i64 0, .slice none 0 0, .slice none 0 0], .int .i64 (-24)]) (by rw [results_ct rfl]; go_simp) rfl ⟨rfl, (Turn.refl _ w).alloc _⟩
  · rw [h1] at CK
    have two : b < 0 ∨ (¬ b < 0 ∧ i < 0) := by omega
    clear h1 h2
    rcases two with g1 | ⟨g1, g2⟩
    all_goals
      go_enter Try.func40, Try.ntmps40
      go_wp2_with (go_at_call 53; (with_reducible refine (CK.out _ ((Turn.refl _ _).alloc _)).mono ?_); rintro y w' ⟨rfl, rfl⟩)
      refine bodyPost_ret (v := .tuple #[.agg #[.int .i64 0, .slice none 0 0, .slice none 0 0], .int .i64 (-10)]) (by rw [results_ct rfl]; go_simp) rfl ⟨rfl, (Turn.refl _ w).alloc _⟩
  · rw [h1] at CK
    have g1 : ¬ b < 0 := by omega
    have g2 : ¬ i < 0 := by omega
    rw [h3] at d2
    rw [h4] at d1
    clear h1 h2 h3 h4
    go_enter Try.func40, Try.ntmps40
    go_wp2_with (go_at_call 53; (with_reducible refine (CK.out _ ((Turn.refl _ _).alloc _)).mono ?_); rintro y w' ⟨rfl, rfl⟩)
    refine bodyPost_ret (v := .tuple #[.agg #[.int .i64 0, .slice none 0 0, .slice none 0 0], .int .i64 (-24)]) (by rw [results_ct rfl]; go_simp) rfl ⟨rfl, (Turn.refl _ w).alloc _⟩
  · rw [h1] at CK
    have g1 : ¬ b < 0 := by omega
    have g2 : ¬ i < 0 := by omega
    rw [h3] at d2
    rw [h4] at d1
    clear h1 h2 h3 h4
    go_enter Try.func40, Try.ntmps40
    go_wp2_with (go_at_call 53; (with_reducible refine (CK.out _ ((Turn.refl _ _).alloc _)).mono ?_); rintro y w' ⟨rfl, rfl⟩)
    refine bodyPost_ret (v := .tuple #[.agg #[.int .i64 0, .slice none 0 0, .slice none 0 0], .int .i64 (-22)]) (by rw [results_ct rfl]; go_simp) rfl ⟨rfl, (Turn.refl _ w).alloc _⟩
theorem cr_ok1 (b i : Int) {m : Msg} {r : List Msg} (ho : (S 1).op = true) (hn : ¬ (b < 0 ∨ i < 0)) (hq : (S 1).q = m :: r) (hb : ¬ (b < m.d.length ∨ i < m.h.length)) :
    crS S 1 b i = 0 ∧ crM S 1 b i = m ∧ crK S 1 b i = updN S 1 ⟨(S 1).op, r, (S 1).ws⟩ := by
  have hs : crS S 1 b i = 0 := by unfold crS; rw [if_neg (by rw [ho]; decide), if_neg hn, hq]; simp only [if_neg hb]
  refine ⟨hs, ?_, ?_⟩
  · unfold crM; rw [if_pos hs, hq]
  · unfold crK; rw [if_pos hs, hq]; rfl
theorem cr_big1 (b i : Int) {m : Msg} {r : List Msg} (ho : (S 1).op = true) (hn : ¬ (b < 0 ∨ i < 0)) (hq : (S 1).q = m :: r) (hb : b < m.d.length ∨ i < m.h.length) :
    crS S 1 b i = -15 ∧ crM S 1 b i = m.blank ∧ crK S 1 b i = S := by
  have hs : crS S 1 b i = -15 := by unfold crS; rw [if_neg (by rw [ho]; decide), if_neg hn, hq]; simp only [if_pos hb]
  refine ⟨hs, ?_, ?_⟩
  · unfold crM; rw [hs, if_neg (by decide), if_pos rfl, hq]
  · unfold crK; rw [hs, if_neg (by decide)]
set_option maxRecDepth 20000 in
set_option maxHeartbeats 2000000 in
theorem rread_ok1 (h : RC w0 w x depth S U V Q) (b i : Int) (ho : (S 1).op = true) (hn : ¬ (b < 0 ∨ i < 0)) {q : QM} {r : List QM} (hq : Q 1 = q :: r) (hb : ¬ (b < q.m.d.length ∨ i < q.m.h.length)) (hl : r.length ≤ 1000000) :
    Calls Try.prog 40 #[.pointer (some ⟨x, 0, none⟩), .int .i64 1, .int .i64 b, .int .i64 i] w fun y w' => y = .returned (.tuple #[q.agg, .int .i64 0]) ∧ RMk w0 w w' x depth U V (updN S 1 ⟨(S 1).op, r.map (·.m), (S 1).ws⟩) := by
  have CK := Lib.hid (fun W (t : Turn NoBlock w W) => show Calls Try.prog 53 #[.pointer (some ⟨x, 0, none⟩), .int .i64 1] W fun y w' => y = .returned (.int .i64 0) ∧ W = w' from rcheck1 (h.past t) true ho)
  have e1 : w.cell? ⟨x, 1, none⟩ = some (U 1) := h.cu 1 (by omega)
  have hr := h.ru 1 (by omega)
  obtain ⟨p, c, hv⟩ := hr.sl
  have hqi := h.rd 1 (by omega) q (by rw [hq]; exact List.mem_cons_self)
  obtain ⟨n, hnl⟩ : ∃ n, (Q 1).length = n := ⟨_, rfl⟩
  have hn1 : n = (q :: r).length := by rw [← hq]; exact hnl.symm
  rw [hv, hnl] at hr
  rw [hv, hnl] at e1
  have hr' := hr
  rw [hq] at hr'
  obtain ⟨g, o, rfl, hnc, k0, k1, k2⟩ := qm_cells hr' hn1
  obtain ⟨pd, cd, hvd⟩ := hqi.d.sl
  obtain ⟨ph, ch, hvh⟩ := hqi.h.sl
  obtain ⟨E, hE, hE1, hE2⟩ := sl_lo 28 3 elem_rmsgs size_rmsgs g o n c 1 (by rw [hn1]; simp) hnc
  have hsl : ∀ w, Sem.run Try.prog (Instr.slice 28 (.slice (some ⟨g, o, none⟩) n c) (some (.int .i64 1)) none none) w = .ok (.slice E (n - 1) (c - 1)) w := hE
  have HE := Lib.hid (And.intro hE1 (And.intro hE2 (And.intro hr (And.intro hn1 (And.intro hv hq)))))
  have g1 : ¬ b < 0 := by omega
  have g2 : ¬ i < 0 := by omega
  have g3 : ¬ b < (q.m.d.length : Int) := by omega
  have g4 : ¬ i < (q.m.h.length : Int) := by omega
  rw [hvd] at k1
  rw [hvh] at k2
  have HQ := Lib.hid (show q.agg = .agg #[.int .i64 q.m.tx, .slice pd q.m.d.length cd, .slice ph q.m.h.length ch] by unfold QM.agg; rw [hvd, hvh])
  obtain ⟨nd, hnd⟩ : ∃ k, q.m.d.length = k := ⟨_, rfl⟩
  obtain ⟨nh, hnh⟩ : ∃ k, q.m.h.length = k := ⟨_, rfl⟩
  obtain ⟨tx, htx⟩ : ∃ k, q.m.tx = k := ⟨_, rfl⟩
  rw [hnd] at g3 k1 HQ
  rw [hnh] at g4 k2 HQ
  rw [htx] at k0 HQ
  have nl : (n : Int) ≤ 1000001 := by have := hn1; simp at this; omega
  have nn : ((n : Int) == 0) = false := by rw [beq_eq_false_iff_ne]; have := hn1; simp at this; omega
  have nn0 : (0 : Int) < n := by have := hn1; simp at this; omega
  have nn1 : 0 < n := by omega
  have HH := Lib.hid h
  obtain ⟨R, hR⟩ : ∃ R, w.heap.size = R := ⟨_, rfl⟩
  have t1 := (Turn.refl NoBlock w).alloc (.cells #[.int .i64 0, .slice none 0 0, .slice none 0 0] 38)
  have e1 := t1.cell e1 (fun h => h)
  have k0 := t1.cell k0 (fun h => h)
  have k1 := t1.cell k1 (fun h => h)
  have k2 := t1.cell k2 (fun h => h)
  have lx := Nat.lt_of_lt_of_le h.typ.lt t1.size
  have r0 : ((w.alloc (.cells #[.int .i64 0, .slice none 0 0, .slice none 0 0] 38)).alloc (.cells #[.int .i64 tx, .slice pd nd cd, .slice ph nh ch] 38)).heap[R]? = some (.cells #[.int .i64 0, .slice none 0 0, .slice none 0 0] 38 (0, 0)) := by rw [← hR]; exact (Below.heap_alloc _ _ _ (by simp)).trans (heap_alloc_new w _)
  have m0 : ((w.alloc (.cells #[.int .i64 0, .slice none 0 0, .slice none 0 0] 38)).alloc (.cells #[.int .i64 tx, .slice pd nd cd, .slice ph nh ch] 38)).heap[R + 1]? = some (.cells #[.int .i64 tx, .slice pd nd cd, .slice ph nh ch] 38 (0, 0)) := by
    have := heap_alloc_new (w.alloc (.cells #[.int .i64 0, .slice none 0 0, .slice none 0 0] 38)) (.cells #[.int .i64 tx, .slice pd nd cd, .slice ph nh ch] 38)
    rw [World.size_alloc, hR] at this
    exact this
  have H0 := Lib.hid (And.intro r0 (And.intro m0 (show Turn NoBlock w ((w.alloc (.cells #[.int .i64 0, .slice none 0 0, .slice none 0 0] 38)).alloc (.cells #[.int .i64 tx, .slice pd nd cd, .slice ph nh ch] 38)) from ((Turn.refl _ w).alloc _).alloc _)))
  clear h hr hr' hv hqi hq hb hn hnl hn1 hE hE1 hE2 hvd hvh hnd hnh htx hl ho t1 r0 m0 hnc
  go_enter Try.func40, Try.ntmps40
  go_upto_region 13 with (go_at_call 53; (with_reducible refine (CK.out _ ((Turn.refl _ _).alloc _)).mono ?_); rintro y w' ⟨rfl, rfl⟩)
  generalize (w.alloc (.cells #[.int .i64 0, .slice none 0 0, .slice none 0 0] 38)).alloc (.cells #[.int .i64 tx, .slice pd nd cd, .slice ph nh ch] 38) = W2 at *
  have e1 := H0.out.2.2.cell (HH.out.cu 1 (by omega)) (fun h => h)
  rw [HE.out.2.2.2.2.1] at e1
  have hnq : (Q 1).length = n := by rw [HE.out.2.2.2.1, HE.out.2.2.2.2.2]
  rw [hnq] at e1
  have ty := HH.out.typ.kept H0.out.2.2 (fun h => h)
  have fx := ty.free 1
  have lx := ty.lt
  clear hnq k0 k1 k2
  go_region
  have hRx : R ≠ x := by have := HH.out.typ.lt; omega
  have hRx1 : R + 1 ≠ x := by have := HH.out.typ.lt; omega
  have TX : Turn (fun k => k = x) W2 (W2.setCell ⟨x, 1, none⟩ (.slice E (n - 1) (c - 1))).drew := ((Turn.refl (fun k => k = x) W2).setCell (p := ⟨x, 1, none⟩) (.inl rfl) _).drew
  have r0 := TX.heap H0.out.1 hRx
  have m0 := TX.heap H0.out.2.1 hRx1
  have HM := Lib.hid (show ∀ W, Turn (fun k => w.heap.size ≤ k) (W2.setCell ⟨x, 1, none⟩ (.slice E (n - 1) (c - 1))).drew W → RMk w0 w W x depth U V (updN S 1 ⟨(S 1).op, r.map (·.m), (S 1).ws⟩) from fun W t2 => by
    have hd := wrow_drop (HE.out.2.2.1.past H0.out.2.2) (l := 1) (by omega) HE.out.1 HE.out.2.1
    have hlen : n - 1 = r.length := by have := HE.out.2.2.2.1; simp at this; omega
    exact rmk_drop HH.out (e := 1) (by omega) H0.out.2.2 (l := r) (by rw [← hlen]; have h1 := hd.1; rw [HE.out.2.2.2.2.2, qcells_cons] at h1; exact h1) (fun q2 hq2 => HH.out.rd 1 (by omega) q2 (by rw [HE.out.2.2.2.2.2]; exact List.mem_cons_of_mem _ hq2)) (fun k hk => by rw [HE.out.2.2.2.2.1, hd.2 k hk]; simp [Blk, Value.ownBlock]) ((Turn.refl (fun k => w.heap.size ≤ k) _).drew.trans t2 (fun _ h => .inl h)))
  generalize (W2.setCell ⟨x, 1, none⟩ (.slice E (n - 1) (c - 1))).drew = W3 at *
  obtain ⟨x0, x1, x2⟩ := box3 r0
  obtain ⟨y0, y1, y2⟩ := box3 m0
  have f0 := free_at r0 0
  have f1 := free_at r0 1
  have f2 := free_at r0 2
  have l0 := lt_of_block r0
  have l1 := lt_of_block m0
  have HR := Lib.hid hR
  clear TX r0 m0 e1 ty fx lx
  go_wp2
  refine bodyPost_ret (v := .tuple #[.agg #[.int .i64 tx, .slice pd nd cd, .slice ph nh ch], .int .i64 0]) (by rw [results_ct rfl]; go_simp) rfl ⟨by rw [HQ.out], HM.out _ ((((Turn.refl _ W3).setCell (p := ⟨R, 0, none⟩) (.inl (Nat.le_of_eq HR.out)) _).setCell (p := ⟨R, 1, none⟩) (.inl (Nat.le_of_eq HR.out)) _).setCell (p := ⟨R, 2, none⟩) (.inl (Nat.le_of_eq HR.out)) _)⟩
set_option maxRecDepth 20000 in
set_option maxHeartbeats 2000000 in
theorem rread_big1 (h : RC w0 w x depth S U V Q) (b i : Int) (ho : (S 1).op = true) (hn : ¬ (b < 0 ∨ i < 0)) {q : QM} {r : List QM} (hq : Q 1 = q :: r) (hb : b < q.m.d.length ∨ i < q.m.h.length) (hl : r.length ≤ 1000000) :
    Calls Try.prog 40 #[.pointer (some ⟨x, 0, none⟩), .int .i64 1, .int .i64 b, .int .i64 i] w fun y w' => ∃ v, y = .returned (.tuple #[v, .int .i64 (-15)]) ∧ QTold w' v q.m.blank ∧ Turn NoBlock w w' := by
  have CK := Lib.hid (fun W (t : Turn NoBlock w W) => show Calls Try.prog 53 #[.pointer (some ⟨x, 0, none⟩), .int .i64 1] W fun y w' => y = .returned (.int .i64 0) ∧ W = w' from rcheck1 (h.past t) true ho)
  obtain ⟨i5, hi5, hz5, hs5, hb5⟩ := info_parts infoB
  obtain ⟨i3, hi3, hz3, hs3, hb3⟩ := info_parts infoI
  have e1 : w.cell? ⟨x, 1, none⟩ = some (U 1) := h.cu 1 (by omega)
  have hr := h.ru 1 (by omega)
  obtain ⟨p, c, hv⟩ := hr.sl
  have hqi := h.rd 1 (by omega) q (by rw [hq]; exact List.mem_cons_self)
  have hf1 := hqi.fits.1
  have hf2 := hqi.fits.2
  obtain ⟨n, hnl⟩ : ∃ n, (Q 1).length = n := ⟨_, rfl⟩
  have hn1 : n = (q :: r).length := by rw [← hq]; exact hnl.symm
  rw [hv, hnl] at hr
  rw [hv, hnl] at e1
  rw [hq] at hr
  obtain ⟨g, o, rfl, hnc, k0, k1, k2⟩ := qm_cells hr hn1
  obtain ⟨pd, cd, hvd⟩ := hqi.d.sl
  obtain ⟨ph, ch, hvh⟩ := hqi.h.sl
  have g1 : ¬ b < 0 := by omega
  have g2 : ¬ i < 0 := by omega
  rw [hvd] at k1
  rw [hvh] at k2
  rw [show q.m.blank = ⟨0, List.replicate q.m.d.length 0, List.replicate q.m.h.length 0⟩ from rfl]
  obtain ⟨nd, hnd⟩ : ∃ k, q.m.d.length = k := ⟨_, rfl⟩
  obtain ⟨nh, hnh⟩ : ∃ k, q.m.h.length = k := ⟨_, rfl⟩
  obtain ⟨tx, htx⟩ : ∃ k, q.m.tx = k := ⟨_, rfl⟩
  rw [hnd] at k1 hb hf1 ⊢
  rw [hnh] at k2 hb hf2 ⊢
  rw [htx] at k0
  have nl : (n : Int) ≤ 1000001 := by have := hn1; simp at this; omega
  have nn : ((n : Int) == 0) = false := by rw [beq_eq_false_iff_ne]; have := hn1; simp at this; omega
  have nn0 : (0 : Int) < n := by have := hn1; simp at this; omega
  have nn1 : 0 < n := by omega
  obtain ⟨R, hR⟩ : ∃ R, w.heap.size = R := ⟨_, rfl⟩
  have t1 := (Turn.refl NoBlock w).alloc (.cells #[.int .i64 0, .slice none 0 0, .slice none 0 0] 38)
  have e1 := t1.cell e1 (fun h => h)
  have k0 := t1.cell k0 (fun h => h)
  have k1 := t1.cell k1 (fun h => h)
  have k2 := t1.cell k2 (fun h => h)
  have lx := Nat.lt_of_lt_of_le h.typ.lt t1.size
  have r0 : ((w.alloc (.cells #[.int .i64 0, .slice none 0 0, .slice none 0 0] 38)).alloc (.cells #[.int .i64 tx, .slice pd nd cd, .slice ph nh ch] 38)).heap[R]? = some (.cells #[.int .i64 0, .slice none 0 0, .slice none 0 0] 38 (0, 0)) := by rw [← hR]; exact (Below.heap_alloc _ _ _ (by simp)).trans (heap_alloc_new w _)
  have m0 : ((w.alloc (.cells #[.int .i64 0, .slice none 0 0, .slice none 0 0] 38)).alloc (.cells #[.int .i64 tx, .slice pd nd cd, .slice ph nh ch] 38)).heap[R + 1]? = some (.cells #[.int .i64 tx, .slice pd nd cd, .slice ph nh ch] 38 (0, 0)) := by
    have := heap_alloc_new (w.alloc (.cells #[.int .i64 0, .slice none 0 0, .slice none 0 0] 38)) (.cells #[.int .i64 tx, .slice pd nd cd, .slice ph nh ch] 38)
    rw [World.size_alloc, hR] at this
    exact this
  have T0 : Turn NoBlock w ((w.alloc (.cells #[.int .i64 0, .slice none 0 0, .slice none 0 0] 38)).alloc (.cells #[.int .i64 tx, .slice pd nd cd, .slice ph nh ch] 38)) := ((Turn.refl _ w).alloc _).alloc _
  have hsz : ((w.alloc (.cells #[.int .i64 0, .slice none 0 0, .slice none 0 0] 38)).alloc (.cells #[.int .i64 tx, .slice pd nd cd, .slice ph nh ch] 38)).heap.size = R + 2 := by simp [hR]
  have H0 := Lib.hid (And.intro r0 (And.intro m0 (And.intro T0 hsz)))
  have two : b < nd ∨ (¬ b < nd ∧ i < nh) := by omega
  have HF := Lib.hid (And.intro hf1 (And.intro hf2 (And.intro hi5 (And.intro hz5 (And.intro hs5 (And.intro hb5 (And.intro hi3 (And.intro hz3 (And.intro hs3 hb3)))))))))
  have HR := Lib.hid hR
  clear h hr hv hqi hq hb hn hnl hn1 hvd hvh hnd hnh htx hl ho t1 r0 m0 hnc T0 hsz hf1 hf2 hi5 hz5 hs5 hb5 hi3 hz3 hs3 hb3
  rcases two with g3 | ⟨g3, g4⟩
  all_goals
    go_enter Try.func40, Try.ntmps40
    go_upto_region 12 with (go_at_call 53; (with_reducible refine (CK.out _ ((Turn.refl _ _).alloc _)).mono ?_); rintro y w' ⟨rfl, rfl⟩)
    generalize (w.alloc (.cells #[.int .i64 0, .slice none 0 0, .slice none 0 0] 38)).alloc (.cells #[.int .i64 tx, .slice pd nd cd, .slice ph nh ch] 38) = W at *
    obtain ⟨hf1, hf2, hi5, hz5, hs5, hb5, hi3, hz3, hs3, hb3⟩ := HF.out
    obtain ⟨W1, hm1, ho1, hg1⟩ := run_make_full (P := Try.prog) W.drew 0 35 5 i5 _ 1 bytesT hi5 hz5 hs5 .i64 .i64 nd (by rw [hb5]; omega) (by unfold maxLen; omega) (Nat.zero_le _)
    obtain ⟨W2, hm2, ho2, hg2⟩ := run_make_full (P := Try.prog) W1 0 36 3 i3 _ 1 intsT hi3 hz3 hs3 .i64 .i64 nh (by rw [hb3]; omega) (by unfold maxLen; omega) (Nat.zero_le _)
    obtain ⟨V1, jm1, jo1, jg1⟩ := run_make_full (P := Try.prog) W.drew 0 36 3 i3 _ 1 intsT hi3 hz3 hs3 .i64 .i64 nh (by rw [hb3]; omega) (by unfold maxLen; omega) (Nat.zero_le _)
    obtain ⟨V2, jm2, jo2, jg2⟩ := run_make_full (P := Try.prog) V1 0 35 5 i5 _ 1 bytesT hi5 hz5 hs5 .i64 .i64 nd (by rw [hb5]; omega) (by unfold maxLen; omega) (Nat.zero_le _)
    have u1 : Turn NoBlock W W1 := TT (Turn.refl NoBlock W).drew (turn_grown hg1)
    have u2 : Turn NoBlock W W2 := TT u1 (turn_grown hg2)
    have v1 : Turn NoBlock W V1 := TT (Turn.refl NoBlock W).drew (turn_grown jg1)
    have v2 : Turn NoBlock W V2 := TT v1 (turn_grown jg2)
    have b0 := H0.out.2.1
    have r0 := H0.out.1
    have s0 := box3 b0
    have s1 := box3 (u1.heap b0 (fun h => h))
    have s2 := box3 (u2.heap b0 (fun h => h))
    have s3 := box3 (v1.heap b0 (fun h => h))
    have s4 := box3 (v2.heap b0 (fun h => h))
    obtain ⟨x0, x1, x3⟩ := box3 (u2.heap r0 (fun h => h))
    obtain ⟨y0, y1, y3⟩ := box3 (v2.heap r0 (fun h => h))
    have f0 := free_at (u2.heap r0 (fun h => h)) 0
    have f1 := free_at (u2.heap r0 (fun h => h)) 1
    have f2 := free_at (u2.heap r0 (fun h => h)) 2
    have z0 := free_at (v2.heap r0 (fun h => h)) 0
    have z1 := free_at (v2.heap r0 (fun h => h)) 1
    have z2 := free_at (v2.heap r0 (fun h => h)) 2
    have HB := Lib.hid (fun W' (t : Turn (fun k => k = R) W W') => box3 (t.heap b0 (fun h => by omega)))
    have hgs : W.drew.heap.size = R + 2 := H0.out.2.2.2
    have X := Lib.hid (And.intro (Byts.past (made_bytes ho1) (turn_grown hg2)) (And.intro (made_nums ho2) (And.intro u2 u1.size)))
    have Y := Lib.hid (And.intro (made_bytes jo2) (And.intro (Nums.past (made_nums jo1) (turn_grown jg2)) (And.intro v2 v1.size)))
    have HG := Lib.hid hgs
    clear b0 r0 ho1 ho2 hg1 hg2 u1 u2 jo1 jo2 jg1 jg2 v1 v2 hgs e1 k0 k1 k2 lx hf1 hf2 hi5 hz5 hs5 hb5 hi3 hz3 hs3 hb3
    go_region_held3 (fun w' => (w'.cell? ⟨R + 1, 0, none⟩ = some (.int .i64 tx) ∧ w'.cell? ⟨R + 1, 1, none⟩ = some (.slice pd nd cd) ∧ w'.cell? ⟨R + 1, 2, none⟩ = some (.slice ph nh ch)))
      (first | exact s0 | exact s1 | exact s2 | exact s3 | exact s4 | exact HB.out _ (turn_set3 X.out.2.2.1) | exact HB.out _ (turn_set3 Y.out.2.2.1))
      (fail)
    · go_wp2
      have q1 := X.out.2.2.2
      have q2 := HG.out
      have q3 : W.drew.heap.size = W.heap.size := rfl
      have q4 := HR.out
      refine bodyPost_ret (v := .tuple #[.agg #[.int .i64 0, .slice (some ⟨W.drew.heap.size, 0, none⟩) nd nd, .slice (some ⟨W1.heap.size, 0, none⟩) nh nh], .int .i64 (-15)]) (by rw [results_ct rfl]; go_simp) rfl ⟨_, rfl, ⟨_, _, rfl, ?_, ?_⟩, ?_⟩
      · exact RdB.rz (Byts.rd (X.out.1.kept (turn_set3 (R := R) (Turn.refl _ _)) (fun k hk => by simp [Blk, Value.ownBlock] at hk; omega)))
      · exact RdI.rz (Nums.rd (X.out.2.1.kept (turn_set3 (R := R) (Turn.refl _ _)) (fun k hk => by simp [Blk, Value.ownBlock] at hk; omega)))
      · exact (TT H0.out.2.2.1 X.out.2.2.1).trans (turn_set3 (R := R) (Turn.refl _ _)) (fun k hk => .inr (by omega))
    · go_wp2
      have q1 := Y.out.2.2.2
      have q2 := HG.out
      have q3 : W.drew.heap.size = W.heap.size := rfl
      have q4 := HR.out
      refine bodyPost_ret (v := .tuple #[.agg #[.int .i64 0, .slice (some ⟨V1.heap.size, 0, none⟩) nd nd, .slice (some ⟨W.drew.heap.size, 0, none⟩) nh nh], .int .i64 (-15)]) (by rw [results_ct rfl]; go_simp) rfl ⟨_, rfl, ⟨_, _, rfl, ?_, ?_⟩, ?_⟩
      · exact RdB.rz (Byts.rd (Y.out.1.kept (turn_set3 (R := R) (Turn.refl _ _)) (fun k hk => by simp [Blk, Value.ownBlock] at hk; omega)))
      · exact RdI.rz (Nums.rd (Y.out.2.1.kept (turn_set3 (R := R) (Turn.refl _ _)) (fun k hk => by simp [Blk, Value.ownBlock] at hk; omega)))
      · exact (TT H0.out.2.2.1 Y.out.2.2.1).trans (turn_set3 (R := R) (Turn.refl _ _)) (fun k hk => .inr (by omega))
end
end Go.Proofs.Ytcbphfpfdfgehaa
