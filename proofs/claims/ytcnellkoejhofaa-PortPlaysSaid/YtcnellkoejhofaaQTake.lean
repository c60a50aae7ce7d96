/-
  Take in a law's state. No conditions.
-/
import Derived.Test.YtcnellkoejhofaaQQue
namespace Go.Proofs.Ytcnellkoejhofaa
open Go.ChangeShapes Go.WideShapes Go.ChangeAt Go.RowKit

def takS (Q : List Pk) : Int := if Q.isEmpty = true then -22 else 0
def takP (Q : List Pk) : Pk := Q.headD ⟨0, 0, 0⟩
theorem usersN_cons (p : Pk) (Q : List Pk) : usersN (p :: Q) = usersN Q + if p.s = 0 then 1 else 0 := by
  unfold usersN
  rw [List.countP_cons]
  by_cases h : p.s = 0 <;> simp [h]
theorem pk3 {W : World} {g : Nat} {a b d : Value} (h : W.heap[g]? = some (.cells #[a, b, d] 37 (0, 0))) : W.cell? ⟨g, 0, none⟩ = some a ∧ W.cell? ⟨g, 1, none⟩ = some b ∧ W.cell? ⟨g, 2, none⟩ = some d := ⟨cell_at h 0, cell_at h 1, cell_at h 2⟩
def set3 (W : World) (g : Nat) (a b d : Value) : World := ((W.setCell ⟨g, 0, none⟩ a).setCell ⟨g, 1, none⟩ b).setCell ⟨g, 2, none⟩ d
theorem set3_heap {W : World} {g : Nat} {a b d a' b' d' : Value} (h : W.heap[g]? = some (.cells #[a, b, d] 37 (0, 0))) : (set3 W g a' b' d').heap[g]? = some (.cells #[a', b', d'] 37 (0, 0)) :=
  set_at (set_at (set_at h 0 a') 1 b') 2 d'
theorem set3_turn (W : World) (g : Nat) (a b d : Value) : Turn (fun k => k = g) W (set3 W g a b d) :=
  (((Turn.refl (fun k => k = g) W).setCell (p := ⟨g, 0, none⟩) (.inl rfl) _).setCell (p := ⟨g, 1, none⟩) (.inl rfl) _).setCell (p := ⟨g, 2, none⟩) (.inl rfl) _

theorem results_ct {fn : Func} {p u : Tmp} {ty : TypeId} (h : fn.results = #[.cell p ty, .tmp u]) (tmps : Array Value) (P : Program) (w : World) :
    (results fn tmps).run P w =
      ((asAddr (tmps.getD p undef)).run P w).andThen fun a w₁ => ((loadVar ty a).run P w₁).andThen fun v w₂ => .ok (.tuple #[v, tmps.getD u undef]) w₂ := by
  simp only [results, h]
  simp [Sem.run_bind, Result.andThen]
section
variable {w0 w w' : World} {c b : Nat} {depth most : Int} {Q Q' : List Pk} {Ws Ws' : List Wc} {v v' : Value} {V V' : Int → Value} {K K' : List Int} {X Y : Nat → Prop}
theorem take_fin (h : PSt w0 w c depth most Q Ws X) (h1 : PM w c depth most v Q b V Ws K) (h4 : ∀ k, PFoot c v b V k → w0.heap.size ≤ k) (h5 : ∀ k, X k → k < w.heap.size ∧ ¬ PFoot c v b V k)
    (hr : PRow v' Q' w) (hb : ∀ j, Blk v' j → Blk v j) (ok : POk depth most Q' Ws) (t : Turn (fun k => k = c) w w') (hd : Hd w' c depth most v' (usersN Q' : Int) b (Ws.length : Int)) : PSt w0 w' c depth most Q' Ws X ∧ Kp X w w' :=
  pst_made h h1 h4 h5 ⟨hd, hr.kept t (fun k hk e => h1.vc (e ▸ hb k hk)), h1.wm.kept t (fun _ hk e => h1.cf (e ▸ hk))⟩ ok (fun k hk => .inl (hb k hk)) (fun _ _ hk => .inl hk) (t.mono (fun _ hk => .inl (.inl hk)))
set_option maxRecDepth 20000 in
set_option maxHeartbeats 1000000 in
theorem PSt.take (h : PSt w0 w c depth most Q Ws X) : Calls Try.prog 12 #[.pointer (some ⟨c, 0, none⟩)] w fun x w' => x = .returned (.tuple #[(takP Q).agg, .int .i64 (takS Q)]) ∧ PSt w0 w' c depth most Q.tail Ws X ∧ Kp X w w' := by
  obtain ⟨v, b, V, K, h1, h4, h5⟩ := h.ex
  have HF := Lib.hid (And.intro h (And.intro h1 (And.intro h4 h5)))
  have hz := heap_alloc_new w (.cells #[.int .i64 0, .int .i64 0, .int .i64 0] 37)
  have tz : Turn NoBlock w (w.alloc (.cells #[.int .i64 0, .int .i64 0, .int .i64 0] 37)) := (Turn.refl _ w).alloc _
  obtain ⟨W1, hW1⟩ : ∃ W1, w.alloc (.cells #[.int .i64 0, .int .i64 0, .int .i64 0] 37) = W1 := ⟨_, rfl⟩
  have hsz : W1.heap.size = w.heap.size + 1 := by rw [← hW1]; simp
  rw [hW1] at hz tz
  cases Q with
  | nil =>
    obtain ⟨p, cap, rfl⟩ := WRow.sl h1.row
    have c2 := (h1.hd.past tz).c2
    simp only [List.length_nil] at c2
    obtain ⟨z0, z1, z2⟩ := pk3 hz
    have g0 := free_at hz 0
    have g1 := free_at hz 1
    have g2 := free_at hz 2
    obtain ⟨y0, y1, y2⟩ := pk3 (set3_heap (a' := .int .i64 0) (b' := .int .i64 0) (d' := .int .i64 0) hz)
    have HZ := Lib.hid (And.intro tz (set3_turn W1 w.heap.size (.int .i64 0) (.int .i64 0) (.int .i64 0)))
    unfold set3 at y0 y1 y2 HZ
    clear h h1 h4 h5 hz tz hsz
    go_enter Try.func12, Try.ntmps12
    go_wp2
    refine bodyPost_ret (v := .tuple #[.agg #[.int .i64 0, .int .i64 0, .int .i64 0], .int .i64 (-22)]) (by rw [results_ct rfl]; go_simp) rfl ⟨rfl, ?_, ?_⟩
    · exact HF.out.1.past (HZ.out.1.trans HZ.out.2 (fun k hk => .inr (by omega)))
    · exact Kp.of_past (HZ.out.1.trans HZ.out.2 (fun k hk => .inr (by omega)))
  | cons q r =>
    obtain ⟨k, s, n⟩ := q
    obtain ⟨g, o, cap, rfl, hnc, hcm, hty, -, -⟩ := WRow.shape h1.row (by simp)
    have hcb := h1.hd.typ.lt
    have hgl := hty.lt
    obtain ⟨D, hs1, hD, hD1⟩ := sl_lo 44 3 elem_packets size_packets g o (r.length + 1) cap 1 (by omega) hnc
    have hs2 : ∀ w, Sem.run Try.prog (Instr.slice 44 (.slice (some ⟨g, o, none⟩) (r.length + 1) cap) (some (.int .i64 1)) none none) w = .ok (.slice D r.length (cap - 1)) w := hs1
    have hdr : WRow w 37 3 (.slice D r.length (cap - 1)) r.length ((pcells (⟨k, s, n⟩ :: r)).drop 3) := by
      have hr := h1.row
      unfold PRow at hr
      simp only [List.length_cons] at hr
      exact hr.behind (fun hc => by have := hD hc; rw [Nat.one_mul] at this; exact this) hD1
    have hdr' : PRow (.slice D r.length (cap - 1)) r w := by
      have := fl_drop Pk.cells 3 (fun _ => rfl) (⟨k, s, n⟩ :: r) 1
      rw [Nat.one_mul] at this
      unfold pcells at hdr
      rw [this] at hdr
      exact hdr
    have hDb : ∀ j, Blk (.slice D r.length (cap - 1)) j → Blk (.slice (some ⟨g, o, none⟩) (r.length + 1) cap) j := by
      intro j hj
      by_cases hc : 1 < cap
      · rw [hD hc] at hj; simpa [Blk, Value.ownBlock] using hj
      · rw [hD1 (by simp only [List.length_cons] at hnc; omega)] at hj; simpa [Blk, Value.ownBlock] using hj
    obtain ⟨q0, q1, q2⟩ := (h1.row.past tz).three (j := 0) (t := ⟨k, s, n⟩) rfl
    simp only [Nat.zero_mul, Nat.add_zero] at q0 q1 q2
    have c2 := (h1.hd.past tz).c2
    simp only [List.length_cons] at c2
    obtain ⟨W2, hW2⟩ : ∃ W2, W1.alloc (.cells #[.int .i64 k, .int .i64 s, .int .i64 n] 37) = W2 := ⟨_, rfl⟩
    have t2 : Turn NoBlock W1 W2 := by rw [← hW2]; exact (Turn.refl _ _).alloc _
    have hb2 : W2.heap[w.heap.size + 1]? = some (.cells #[.int .i64 k, .int .i64 s, .int .i64 n] 37 (0, 0)) := by rw [← hW2, ← hsz]; exact heap_alloc_new W1 _
    have hz2 := t2.heap hz (fun h => h)
    have e2 := ((h1.hd.past tz).past t2).c2
    simp only [List.length_cons] at e2
    have f2 := ((h1.hd.past tz).past t2).typ.free 2
    obtain ⟨W3, hW3⟩ : ∃ W3, W2.setCell ⟨c, 2, none⟩ (.slice D r.length (cap - 1)) = W3 := ⟨_, rfl⟩
    have t3 : Turn (fun j => j = c) W2 W3 := by rw [← hW3]; exact turn_c _ _ _ _
    have hd3 : Hd W3 c depth most (.slice D r.length (cap - 1)) (usersN (⟨k, s, n⟩ :: r) : Int) b (Ws.length : Int) := by rw [← hW3]; exact ((h1.hd.past tz).past t2).set2 _
    have hz3 := t3.heap hz2 (by omega)
    have hb3 := t3.heap hb2 (by omega)
    have hok : POk depth most r Ws := by
      have o1 := h.ok.users; have o2 := h.ok.fired
      rw [usersN_cons] at o1 o2
      simp only [List.length_cons] at o2
      have hul := usersN_le r
      refine ⟨h.ok.dep, h.ok.mst, ?_, ?_, h.ok.objs⟩
      · by_cases h0 : s = 0 <;> simp [h0] at o1 <;> omega
      · by_cases h0 : s = 0 <;> simp [h0] at o2 <;> omega
    have hus := usersN_cons ⟨k, s, n⟩ r
    have hub := h.ok.ulen
    simp only at hus
    have HD := Lib.hid (And.intro hdr' hDb)
    by_cases h0 : s = 0
    · subst h0
      rw [if_pos rfl] at hus
      rw [hus] at hd3 hub
      have c3 := hd3.c3
      have f3 := hd3.typ.free 3
      obtain ⟨W4, hW4⟩ : ∃ W4, W3.setCell ⟨c, 3, none⟩ (.int .i64 (usersN r : Int)) = W4 := ⟨_, rfl⟩
      have t4 : Turn (fun j => j = c) W3 W4 := by rw [← hW4]; exact turn_c _ _ _ _
      have hd4 : Hd W4 c depth most (.slice D r.length (cap - 1)) (usersN r : Int) b (Ws.length : Int) := by rw [← hW4]; exact hd3.set3 _
      have hz4 := t4.heap hz3 (by omega)
      have hb4 := t4.heap hb3 (by omega)
      obtain ⟨x0, x1, x2⟩ := pk3 hb3
      obtain ⟨u0, u1, u2⟩ := pk3 hb4
      obtain ⟨z0, z1, z2⟩ := pk3 hz4
      have g0 := free_at hz4 0
      have g1 := free_at hz4 1
      have g2 := free_at hz4 2
      obtain ⟨y0, y1, y2⟩ := pk3 (set3_heap (a' := .int .i64 k) (b' := .int .i64 0) (d' := .int .i64 n) hz4)
      have t5 := set3_turn W4 w.heap.size (.int .i64 k) (.int .i64 0) (.int .i64 n)
      have HE := Lib.hid (show Turn (fun j => j = c) w (set3 W4 w.heap.size (.int .i64 k) (.int .i64 0) (.int .i64 n)) ∧ Hd (set3 W4 w.heap.size (.int .i64 k) (.int .i64 0) (.int .i64 n)) c depth most (.slice D r.length (cap - 1)) (usersN r : Int) b (Ws.length : Int) from
        ⟨((((TU tz).trans (TU t2) (fun _ h => .inl h)).trans t3 (fun _ h => .inl h)).trans t4 (fun _ h => .inl h)).trans t5 (fun j hj => .inr (by omega)), hd4.kept t5 (by omega)⟩)
      unfold set3 at y0 y1 y2 HE
      have hw : IntKind.i64.wrap ((usersN r : Int) + 1 - 1) = (usersN r : Int) := by rw [show (usersN r : Int) + 1 - 1 = (usersN r : Int) by omega]; exact wrap_nat _ (by omega)
      have hu1 : ((usersN r + 1 : Nat) : Int) = (usersN r : Int) + 1 := by omega
      rw [hu1] at c3
      have HO := Lib.hid hok
      generalize hgu : usersN r = u at *
      have HGU := Lib.hid hgu
      clear h h1 h4 h5 hz tz hty hdr hdr' hDb hD hD1 t2 hb2 hz2 t3 hd3 hz3 hb3 hus t4 hd4 hz4 hb4 t5 hok hnc hcm hs1 hgu
      go_enter Try.func12, Try.ntmps12
      go_wp2
      refine bodyPost_ret (v := .tuple #[.agg #[.int .i64 k, .int .i64 0, .int .i64 n], .int .i64 0]) (by rw [results_ct rfl]; go_simp) rfl ⟨rfl, ?_⟩
      obtain ⟨hF, j1, j4, j5⟩ := HF.out
      exact take_fin hF j1 j4 j5 HD.out.1 HD.out.2 HO.out HE.out.1 (by rw [List.tail_cons, HGU.out]; exact HE.out.2)
    · rw [if_neg h0] at hus
      rw [hus] at hd3
      obtain ⟨x0, x1, x2⟩ := pk3 hb3
      obtain ⟨z0, z1, z2⟩ := pk3 hz3
      have g0 := free_at hz3 0
      have g1 := free_at hz3 1
      have g2 := free_at hz3 2
      obtain ⟨y0, y1, y2⟩ := pk3 (set3_heap (a' := .int .i64 k) (b' := .int .i64 s) (d' := .int .i64 n) hz3)
      have t5 := set3_turn W3 w.heap.size (.int .i64 k) (.int .i64 s) (.int .i64 n)
      have HE := Lib.hid (show Turn (fun j => j = c) w (set3 W3 w.heap.size (.int .i64 k) (.int .i64 s) (.int .i64 n)) ∧ Hd (set3 W3 w.heap.size (.int .i64 k) (.int .i64 s) (.int .i64 n)) c depth most (.slice D r.length (cap - 1)) (usersN r : Int) b (Ws.length : Int) from
        ⟨(((TU tz).trans (TU t2) (fun _ h => .inl h)).trans t3 (fun _ h => .inl h)).trans t5 (fun j hj => .inr (by omega)), hd3.kept t5 (by omega)⟩)
      unfold set3 at y0 y1 y2 HE
      have HO := Lib.hid hok
      have hs0 : (s == 0) = false := by simp [h0]
      clear h h1 h4 h5 hz tz hty hdr hdr' hDb hD hD1 t2 hb2 hz2 t3 hd3 hz3 hb3 hus t5 hok hnc hcm hs1 hub
      go_enter Try.func12, Try.ntmps12
      go_wp2
      refine bodyPost_ret (v := .tuple #[.agg #[.int .i64 k, .int .i64 s, .int .i64 n], .int .i64 0]) (by rw [results_ct rfl]; go_simp) rfl ⟨rfl, ?_⟩
      obtain ⟨hF, j1, j4, j5⟩ := HF.out
      exact take_fin hF j1 j4 j5 HD.out.1 HD.out.2 HO.out HE.out.1 HE.out.2
end
end Go.Proofs.Ytcnellkoejhofaa
