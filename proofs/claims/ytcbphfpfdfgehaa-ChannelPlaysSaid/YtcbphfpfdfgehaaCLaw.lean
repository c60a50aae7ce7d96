/-
  A law's state: a channel of its own, and rows beside it; what each call makes of it. No conditions.
-/
import Derived.Test.YtcbphfpfdfgehaaCForget
namespace Go.Proofs.Ytcbphfpfdfgehaa
open Go.RowKit

/-- Behind w0 stands a channel of the planes K, in blocks that came behind w0; the blocks of X lie beside it. -/
def CSt (w0 w : World) (c depth N : Nat) (K : Nat → MS) (X : Nat → Prop) : Prop :=
  ∃ S V, CMem w c depth N S V ∧ planeOf S = K ∧ Turn NoBlock w0 w ∧ (∀ k, CFoot c S V k → w0.heap.size ≤ k) ∧ ∀ k, X k → k < w.heap.size ∧ ¬ CFoot c S V k
/-- The blocks of X are as they were. -/
def Kp (X : Nat → Prop) (w w' : World) : Prop := ∃ F, Turn F w w' ∧ ∀ k, X k → ¬ F k
theorem Kp.row {X : Nat → Prop} {w w' : World} {e size n : Nat} {v : Value} {xs : List Value} (h : Kp X w w') (hr : WRow w e size v n xs) (hv : ∀ k, Blk v k → X k) : WRow w' e size v n xs := by
  obtain ⟨F, t, hF⟩ := h
  exact hr.kept t (fun k hk => hF k (hv k hk))
theorem CSt.turn {w0 w : World} {c depth N : Nat} {K : Nat → MS} {X : Nat → Prop} (h : CSt w0 w c depth N K X) : Turn NoBlock w0 w := by
  obtain ⟨S, V, h1, h2, h3, h4, h5⟩ := h
  exact h3
theorem CSt.past {w0 w w' : World} {c depth N : Nat} {K : Nat → MS} {X : Nat → Prop} (h : CSt w0 w c depth N K X) (t : Turn NoBlock w w') : CSt w0 w' c depth N K X := by
  obtain ⟨S, V, h1, h2, h3, h4, h5⟩ := h
  exact ⟨S, V, h1.past t, h2, h3.trans t (fun _ h => .inl h), h4, fun k hk => ⟨Nat.lt_of_lt_of_le (h5 k hk).1 t.size, (h5 k hk).2⟩⟩
/-- What else is laid beside it. -/
theorem CSt.more {w0 w w' : World} {c depth N : Nat} {K : Nat → MS} {X Y : Nat → Prop} (h : CSt w0 w c depth N K X) (t : Turn X w w') (hY : ∀ k, Y k → X k ∨ (w.heap.size ≤ k ∧ k < w'.heap.size)) (hX : ∀ k, X k → w0.heap.size ≤ k) : CSt w0 w' c depth N K Y := by
  obtain ⟨S, V, h1, h2, h3, h4, h5⟩ := h
  refine ⟨S, V, h1.kept t (fun k hk hx => (h5 k hx).2 hk), h2, h3.trans t (fun k hk => .inr (hX k hk)), h4, fun k hk => ?_⟩
  rcases hY k hk with h6 | h6
  · exact ⟨Nat.lt_of_lt_of_le (h5 k h6).1 t.size, (h5 k h6).2⟩
  · exact ⟨h6.2, fun hh => by have := h1.lt hh; omega⟩
theorem cst_made {w0 w w' : World} {c depth M : Nat} {S : Nat → Sd} {V : Nat → SV} {K' : Nat → MS} {X : Nat → Prop} (ht : Turn NoBlock w0 w) (hf : ∀ k, CFoot c S V k → w0.heap.size ≤ k) (hx : ∀ k, X k → k < w.heap.size ∧ ¬ CFoot c S V k) (h : Made w w' c depth M S V K') :
    CSt w0 w' c depth M K' X ∧ Kp X w w' := by
  obtain ⟨S', V', h1, h2, h3, h4⟩ := h
  refine ⟨⟨S', V', h1, h2, ht.trans h3 (fun k hk => .inr (hf k hk)), fun k hk => ?_, fun k hk => ⟨Nat.lt_of_lt_of_le (hx k hk).1 h3.size, fun hh => ?_⟩⟩, _, h3, fun k hk => (hx k hk).2⟩
  · rcases h4 k hk with h | h
    · exact hf k h
    · have := ht.size; omega
  · rcases h4 k hh with h | h
    · exact (hx k hk).2 h
    · have := (hx k hk).1; omega
theorem Kp.of_past {X : Nat → Prop} {w w' : World} (t : Turn NoBlock w w') : Kp X w w' := ⟨_, t, fun _ _ h => h⟩
theorem cst_new (d : Nat) (w : World) (h1 : 1 ≤ d) (h2 : d ≤ 65536) : Calls Try.prog 9 #[.int .i64 (d : Int)] w fun x w' => x = .returned (.pointer (some ⟨w.heap.size, 0, none⟩)) ∧ CSt w w' w.heap.size d 0 (fun _ => ⟨true, [], []⟩) NoBlock :=
  (new_yes d w h1 h2).mono (by
    rintro x w' ⟨rfl, hm, hf, t⟩
    exact ⟨rfl, _, _, hm, by funext i; rfl, t, hf, fun k hk => hk.elim⟩)
theorem rdb_nil (w : World) : RdB w (.slice none 0 0) [] := ⟨rfl, none, 0, rfl, fun _ => rfl, fun a ha => by cases ha⟩
theorem rdi_nil (w : World) : RdI w (.slice none 0 0) [] := ⟨rfl, none, 0, rfl, fun _ => rfl, fun a ha => by cases ha⟩
section
variable {w0 w : World} {c depth N : Nat} {K : Nat → MS} {X : Nat → Prop}
theorem CSt.len (h : CSt w0 w c depth N K X) (hN : N ≤ 1000000) {e : Nat} (he : e < 2) : Calls Try.prog 14 #[.pointer (some ⟨c, 0, none⟩), .int .i64 (e : Int)] w fun x w' => x = .returned (.int .i64 ((K e).q.length : Nat)) ∧ Turn NoBlock w w' := by
  obtain ⟨S, V, hC, rfl, ht, hf, hx⟩ := h
  exact len_any hC hN he
theorem CSt.put0 (h : CSt w0 w c depth N K X) (hN : N ≤ 1000000) (ho : (K 0).op = true) (hp : (K 1).op = true) (m : Msg) (hf : m.fits) (hw : ∀ t ∈ (K 1).ws, t.tx ≠ m.tx) (hq : (K 1).q.length < depth) (vd vh : Value) (hd : RdB w vd m.d) (hh : RdI w vh m.h) :
    Calls Try.prog 36 #[.pointer (some ⟨c, 0, none⟩), .int .i64 0, .agg #[.int .i64 m.tx, vd, vh]] w fun x w' => x = .returned (.tuple #[.int .i64 (-1), .int .i64 0]) ∧ CSt w0 w' c depth (N + 1) (updN K 1 (msAdd (K 1) m)) X ∧ Kp X w w' := by
  obtain ⟨S, V, hC, rfl, ht, hf0, hx⟩ := h
  exact (write_put0 hC hN ho hp m hf hw hq vd vh hd hh).mono (fun x w' h => ⟨h.1, cst_made ht hf0 hx h.2⟩)
theorem CSt.wake0 (h : CSt w0 w c depth N K X) (hN : N ≤ 1000000) (ho : (K 0).op = true) (hp : (K 1).op = true) (m : Msg) (hf : m.fits) (k : Nat) (t : Wt) (hk : FirstAt (fun t => t.tx == m.tx) (K 1).ws k) (hkt : (K 1).ws[k]? = some t) (vd vh : Value) (hd : RdB w vd m.d) (hh : RdI w vh m.h) (hA : ∀ j, (Blk vd j ∨ Blk vh j) → X j) :
    Calls Try.prog 36 #[.pointer (some ⟨c, 0, none⟩), .int .i64 0, .agg #[.int .i64 m.tx, vd, vh]] w fun x w' => x = .returned (.tuple #[.int .i64 t.who, .int .i64 0]) ∧ CSt w0 w' c depth (N + 1) (updN K 1 (msAns (K 1) k m)) X ∧ Kp X w w' := by
  obtain ⟨S, V, hC, rfl, ht, hf0, hx⟩ := h
  exact (write_wake0 hC hN ho hp m hf k t hk hkt vd vh hd hh (fun j hj => (hx j (hA j hj)).2)).mono (fun x w' h => ⟨h.1, cst_made ht hf0 hx h.2⟩)
theorem CSt.forget0 (h : CSt w0 w c depth N K X) (hN : N ≤ 1000000) (ho : (K 0).op = true) (k : Int) (j : Nat) (hk : FirstAt (fun t => t.who == k) (K 0).ws j) (hkl : j < (K 0).ws.length) :
    Calls Try.prog 44 #[.pointer (some ⟨c, 0, none⟩), .int .i64 0, .int .i64 k] w fun x w' => x = .returned (.int .i64 0) ∧ CSt w0 w' c depth N (updN K 0 ⟨(K 0).op, (K 0).q, (K 0).ws.eraseIdx j⟩) X ∧ Kp X w w' := by
  obtain ⟨S, V, hC, rfl, ht, hf0, hx⟩ := h
  exact (forget_hit0 hC hN ho k j hk hkl).mono (fun x w' h => ⟨h.1, cst_made ht hf0 hx h.2⟩)
theorem CSt.miss0 (h : CSt w0 w c depth N K X) (hN : N ≤ 1000000) (ho : (K 0).op = true) (k : Int) (hk : FirstAt (fun t => t.who == k) (K 0).ws (K 0).ws.length) :
    Calls Try.prog 44 #[.pointer (some ⟨c, 0, none⟩), .int .i64 0, .int .i64 k] w fun x w' => x = .returned (.int .i64 (-25)) ∧ Turn NoBlock w w' := by
  obtain ⟨S, V, hC, rfl, ht, hf0, hx⟩ := h
  exact forget_miss0 hC hN ho k hk
theorem CSt.noargs0 (h : CSt w0 w c depth N K X) (ho : (K 0).op = true) (k : Int) (tx : Int) (hb : tx = 0 ∨ k < 0) (vd vh : Value) (hd : ∃ p n c, vd = .slice p n c) (hh : ∃ p n c, vh = .slice p n c) :
    Calls Try.prog 42 #[.pointer (some ⟨c, 0, none⟩), .int .i64 0, .int .i64 k, .agg #[.int .i64 tx, vd, vh]] w fun x w' => x = .returned (.int .i64 (-10)) ∧ Turn NoBlock w w' := by
  obtain ⟨S, V, hC, rfl, ht, hf0, hx⟩ := h
  exact call_args hC (e := 0) (by omega) ho k tx hb vd vh hd hh
theorem CSt.barred0 (h : CSt w0 w c depth N K X) (hN : N ≤ 1000000) (ho : (K 0).op = true) (k : Int) (tx : Int) (htx : tx ≠ 0) (hk : ¬ k < 0) (t : Wt) (ht : t ∈ (K 0).ws) (hb : t.who = k ∨ t.tx = tx) (vd vh : Value) (hd : ∃ p n c, vd = .slice p n c) (hh : ∃ p n c, vh = .slice p n c) :
    Calls Try.prog 42 #[.pointer (some ⟨c, 0, none⟩), .int .i64 0, .int .i64 k, .agg #[.int .i64 tx, vd, vh]] w fun x w' => x = .returned (.int .i64 (-26)) ∧ Turn NoBlock w w' := by
  obtain ⟨S, V, hC, rfl, ht0, hf0, hx⟩ := h
  exact call_exists0 hC hN ho k tx htx hk ⟨(0, t), List.mem_append_left _ (List.mem_map.2 ⟨t, ht, rfl⟩), hb.imp (fun h => h) (fun h => ⟨rfl, h⟩)⟩ vd vh hd hh
theorem CSt.call0 (h : CSt w0 w c depth N K X) (hN : N ≤ 1000000) (ho : (K 0).op = true) (hp : (K 1).op = true) (k : Int) (hk : ¬ k < 0) (m : Msg) (hf : m.fits) (htx : m.tx ≠ 0) (hno : ∀ t ∈ (K 0).ws, t.who ≠ k ∧ t.tx ≠ m.tx) (hno2 : ∀ t ∈ (K 1).ws, t.who ≠ k) (hw : ∀ t ∈ (K 1).ws, t.tx ≠ m.tx) (hq : (K 1).q.length < depth) (vd vh : Value) (hd : RdB w vd m.d) (hh : RdI w vh m.h) :
    Calls Try.prog 42 #[.pointer (some ⟨c, 0, none⟩), .int .i64 0, .int .i64 k, .agg #[.int .i64 m.tx, vd, vh]] w fun x w' => x = .returned (.int .i64 0) ∧ CSt w0 w' c depth (N + 2) (updN (updN K 1 (msAdd (K 1) m)) 0 ⟨(K 0).op, (K 0).q, (K 0).ws ++ [⟨k, m.tx⟩]⟩) X ∧ Kp X w w' := by
  obtain ⟨S, V, hC, rfl, ht, hf0, hx⟩ := h
  have hno' : NoBar 0 k m.tx (waitL S 0) := by
    intro x hx
    unfold waitL oth at hx
    rcases List.mem_append.1 hx with h1 | h1
    · obtain ⟨t, h2, rfl⟩ := List.mem_map.1 h1
      exact fun hb => hb.elim (hno t h2).1 (fun h => (hno t h2).2 h.2)
    · obtain ⟨t, h2, rfl⟩ := List.mem_map.1 h1
      exact fun hb => hb.elim (hno2 t h2) (fun h => by have := h.1; simp at this)
  have e1 : updN (planeOf S) 1 (msAdd (planeOf S 1) m) 0 = planeOf S 0 := updN_other _ _ (by omega)
  have hc := call_ok0 hC hN ho k m.tx htx hk hno' vd vh ⟨_, _, hd.sl.choose_spec⟩ ⟨_, _, hh.sl.choose_spec⟩ (-1) (updN (planeOf S) 1 (msAdd (planeOf S 1) m)) (by rw [e1]; exact ho)
    (fun W t => write_put0 (hC.past t) hN ho hp m hf hw hq vd vh (hd.past t) (hh.past t))
  rw [e1] at hc
  exact hc.mono (fun x w' h => ⟨h.1, cst_made ht hf0 hx h.2⟩)
theorem CSt.put1 (h : CSt w0 w c depth N K X) (hN : N ≤ 1000000) (ho : (K 1).op = true) (hp : (K 0).op = true) (m : Msg) (hf : m.fits) (hw : ∀ t ∈ (K 0).ws, t.tx ≠ m.tx) (hq : (K 0).q.length < depth) (vd vh : Value) (hd : RdB w vd m.d) (hh : RdI w vh m.h) :
    Calls Try.prog 36 #[.pointer (some ⟨c, 0, none⟩), .int .i64 1, .agg #[.int .i64 m.tx, vd, vh]] w fun x w' => x = .returned (.tuple #[.int .i64 (-1), .int .i64 0]) ∧ CSt w0 w' c depth (N + 1) (updN K 0 (msAdd (K 0) m)) X ∧ Kp X w w' := by
  obtain ⟨S, V, hC, rfl, ht, hf0, hx⟩ := h
  exact (write_put1 hC hN ho hp m hf hw hq vd vh hd hh).mono (fun x w' h => ⟨h.1, cst_made ht hf0 hx h.2⟩)
theorem CSt.wake1 (h : CSt w0 w c depth N K X) (hN : N ≤ 1000000) (ho : (K 1).op = true) (hp : (K 0).op = true) (m : Msg) (hf : m.fits) (k : Nat) (t : Wt) (hk : FirstAt (fun t => t.tx == m.tx) (K 0).ws k) (hkt : (K 0).ws[k]? = some t) (vd vh : Value) (hd : RdB w vd m.d) (hh : RdI w vh m.h) (hA : ∀ j, (Blk vd j ∨ Blk vh j) → X j) :
    Calls Try.prog 36 #[.pointer (some ⟨c, 0, none⟩), .int .i64 1, .agg #[.int .i64 m.tx, vd, vh]] w fun x w' => x = .returned (.tuple #[.int .i64 t.who, .int .i64 0]) ∧ CSt w0 w' c depth (N + 1) (updN K 0 (msAns (K 0) k m)) X ∧ Kp X w w' := by
  obtain ⟨S, V, hC, rfl, ht, hf0, hx⟩ := h
  exact (write_wake1 hC hN ho hp m hf k t hk hkt vd vh hd hh (fun j hj => (hx j (hA j hj)).2)).mono (fun x w' h => ⟨h.1, cst_made ht hf0 hx h.2⟩)
theorem CSt.forget1 (h : CSt w0 w c depth N K X) (hN : N ≤ 1000000) (ho : (K 1).op = true) (k : Int) (j : Nat) (hk : FirstAt (fun t => t.who == k) (K 1).ws j) (hkl : j < (K 1).ws.length) :
    Calls Try.prog 44 #[.pointer (some ⟨c, 0, none⟩), .int .i64 1, .int .i64 k] w fun x w' => x = .returned (.int .i64 0) ∧ CSt w0 w' c depth N (updN K 1 ⟨(K 1).op, (K 1).q, (K 1).ws.eraseIdx j⟩) X ∧ Kp X w w' := by
  obtain ⟨S, V, hC, rfl, ht, hf0, hx⟩ := h
  exact (forget_hit1 hC hN ho k j hk hkl).mono (fun x w' h => ⟨h.1, cst_made ht hf0 hx h.2⟩)
theorem CSt.miss1 (h : CSt w0 w c depth N K X) (hN : N ≤ 1000000) (ho : (K 1).op = true) (k : Int) (hk : FirstAt (fun t => t.who == k) (K 1).ws (K 1).ws.length) :
    Calls Try.prog 44 #[.pointer (some ⟨c, 0, none⟩), .int .i64 1, .int .i64 k] w fun x w' => x = .returned (.int .i64 (-25)) ∧ Turn NoBlock w w' := by
  obtain ⟨S, V, hC, rfl, ht, hf0, hx⟩ := h
  exact forget_miss1 hC hN ho k hk
theorem CSt.noargs1 (h : CSt w0 w c depth N K X) (ho : (K 1).op = true) (k : Int) (tx : Int) (hb : tx = 0 ∨ k < 0) (vd vh : Value) (hd : ∃ p n c, vd = .slice p n c) (hh : ∃ p n c, vh = .slice p n c) :
    Calls Try.prog 42 #[.pointer (some ⟨c, 0, none⟩), .int .i64 1, .int .i64 k, .agg #[.int .i64 tx, vd, vh]] w fun x w' => x = .returned (.int .i64 (-10)) ∧ Turn NoBlock w w' := by
  obtain ⟨S, V, hC, rfl, ht, hf0, hx⟩ := h
  exact call_args hC (e := 1) (by omega) ho k tx hb vd vh hd hh
theorem CSt.barred1 (h : CSt w0 w c depth N K X) (hN : N ≤ 1000000) (ho : (K 1).op = true) (k : Int) (tx : Int) (htx : tx ≠ 0) (hk : ¬ k < 0) (t : Wt) (ht : t ∈ (K 1).ws) (hb : t.who = k ∨ t.tx = tx) (vd vh : Value) (hd : ∃ p n c, vd = .slice p n c) (hh : ∃ p n c, vh = .slice p n c) :
    Calls Try.prog 42 #[.pointer (some ⟨c, 0, none⟩), .int .i64 1, .int .i64 k, .agg #[.int .i64 tx, vd, vh]] w fun x w' => x = .returned (.int .i64 (-26)) ∧ Turn NoBlock w w' := by
  obtain ⟨S, V, hC, rfl, ht0, hf0, hx⟩ := h
  exact call_exists1 hC hN ho k tx htx hk ⟨(1, t), List.mem_append_left _ (List.mem_map.2 ⟨t, ht, rfl⟩), hb.imp (fun h => h) (fun h => ⟨rfl, h⟩)⟩ vd vh hd hh
theorem CSt.call1 (h : CSt w0 w c depth N K X) (hN : N ≤ 1000000) (ho : (K 1).op = true) (hp : (K 0).op = true) (k : Int) (hk : ¬ k < 0) (m : Msg) (hf : m.fits) (htx : m.tx ≠ 0) (hno : ∀ t ∈ (K 1).ws, t.who ≠ k ∧ t.tx ≠ m.tx) (hno2 : ∀ t ∈ (K 0).ws, t.who ≠ k) (hw : ∀ t ∈ (K 0).ws, t.tx ≠ m.tx) (hq : (K 0).q.length < depth) (vd vh : Value) (hd : RdB w vd m.d) (hh : RdI w vh m.h) :
    Calls Try.prog 42 #[.pointer (some ⟨c, 0, none⟩), .int .i64 1, .int .i64 k, .agg #[.int .i64 m.tx, vd, vh]] w fun x w' => x = .returned (.int .i64 0) ∧ CSt w0 w' c depth (N + 2) (updN (updN K 0 (msAdd (K 0) m)) 1 ⟨(K 1).op, (K 1).q, (K 1).ws ++ [⟨k, m.tx⟩]⟩) X ∧ Kp X w w' := by
  obtain ⟨S, V, hC, rfl, ht, hf0, hx⟩ := h
  have hno' : NoBar 1 k m.tx (waitL S 1) := by
    intro x hx
    unfold waitL oth at hx
    rcases List.mem_append.1 hx with h1 | h1
    · obtain ⟨t, h2, rfl⟩ := List.mem_map.1 h1
      exact fun hb => hb.elim (hno t h2).1 (fun h => (hno t h2).2 h.2)
    · obtain ⟨t, h2, rfl⟩ := List.mem_map.1 h1
      exact fun hb => hb.elim (hno2 t h2) (fun h => by have := h.1; simp at this)
  have e1 : updN (planeOf S) 0 (msAdd (planeOf S 0) m) 1 = planeOf S 1 := updN_other _ _ (by omega)
  have hc := call_ok1 hC hN ho k m.tx htx hk hno' vd vh ⟨_, _, hd.sl.choose_spec⟩ ⟨_, _, hh.sl.choose_spec⟩ (-1) (updN (planeOf S) 0 (msAdd (planeOf S 0) m)) (by rw [e1]; exact ho)
    (fun W t => write_put1 (hC.past t) hN ho hp m hf hw hq vd vh (hd.past t) (hh.past t))
  rw [e1] at hc
  exact hc.mono (fun x w' h => ⟨h.1, cst_made ht hf0 hx h.2⟩)
end
end Go.Proofs.Ytcbphfpfdfgehaa
