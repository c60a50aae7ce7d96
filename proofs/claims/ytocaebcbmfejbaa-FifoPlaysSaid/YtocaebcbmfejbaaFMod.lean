/-
  A fifo as plain data and in memory: two ends, each a ring of bytes. No walk of the program, no conditions.
-/
import Derived.Test.YtocaebcbmfejbaaKBase
namespace Go.Proofs.Ytocaebcbmfejbaa
open Go.ChangeShapes Go.WideShapes Go.ChangeAt Go.RowKit

/-- An end: is it open, and the bytes that wait there, one element behind the other. -/
structure Re where
  op : Bool
  d : List UInt8
def Re.cl : Re := ⟨false, []⟩
/-- The bytes d stand in a ring from place p on. -/
def Ring (bs : List UInt8) (p : Nat) (d : List UInt8) : Prop := ∀ i, i < d.length → bs[(p + i) % bs.length]? = d[i]?

theorem ring_at (f n count size j : Nat) (hj : j < size) : ((f + n) % count) * size + j = (f * size + (n * size + j)) % (count * size) := by
  have h1 : f * size + (n * size + j) = (f + n) * size + j := by rw [Nat.add_mul]; omega
  rw [h1]
  by_cases hc : count = 0
  · subst hc; simp
  obtain ⟨q, r, hr, he⟩ : ∃ q r, r < count ∧ f + n = q * count + r := ⟨(f + n) / count, (f + n) % count, Nat.mod_lt _ (by omega), by rw [Nat.mul_comm, Nat.div_add_mod]⟩
  have e1 : (f + n) % count = r := by rw [he, Nat.add_comm, Nat.add_mul_mod_self_right, Nat.mod_eq_of_lt hr]
  have hlt : r * size + j < count * size := by
    have : (r + 1) * size ≤ count * size := Nat.mul_le_mul_right _ hr
    rw [Nat.add_mul, Nat.one_mul] at this
    omega
  have e2 : (q * count + r) * size + j = (r * size + j) + q * (count * size) := by rw [Nat.add_mul, Nat.mul_assoc]; omega
  rw [e1, he, e2, Nat.add_mul_mod_self_right, Nat.mod_eq_of_lt hlt]
theorem ring_place (f n count size : Nat) (hs : 0 < size) : ((f + n) % count) * size = (f * size + n * size) % (count * size) := ring_at f n count size 0 hs
theorem mod_apart {p m i j : Nat} (hi : i < m) (hj : j < m) (h : (p + i) % m = (p + j) % m) : i = j := by
  have h1 := Nat.mod_add_div (p + i) m
  have h2 := Nat.mod_add_div (p + j) m
  rw [h] at h1
  generalize (p + j) % m = r at *
  generalize ha : (p + i) / m = a at *
  generalize hb : (p + j) / m = b at *
  rcases Nat.lt_trichotomy a b with h3 | h3 | h3
  · have : m * (a + 1) ≤ m * b := Nat.mul_le_mul_left _ h3
    rw [Nat.mul_add, Nat.mul_one] at this
    omega
  · subst h3; omega
  · have : m * (b + 1) ≤ m * a := Nat.mul_le_mul_left _ h3
    rw [Nat.mul_add, Nat.mul_one] at this
    omega
/-- Bytes e laid over those from a on. -/
def overB (bs : List UInt8) (a : Nat) (e : List UInt8) : List UInt8 := bs.take a ++ e ++ bs.drop (a + e.length)
theorem overB_len {bs e : List UInt8} {a : Nat} (h : a + e.length ≤ bs.length) : (overB bs a e).length = bs.length := by
  unfold overB
  simp only [List.length_append, List.length_take, List.length_drop]
  omega
theorem overB_get {bs e : List UInt8} {a : Nat} (h : a + e.length ≤ bs.length) (k : Nat) : (overB bs a e)[k]? = if a ≤ k ∧ k < a + e.length then e[k - a]? else bs[k]? := by
  unfold overB
  rcases Nat.lt_or_ge k a with h1 | h1
  · rw [if_neg (by omega), List.append_assoc, List.getElem?_append_left (by rw [List.length_take]; omega), List.getElem?_take_of_lt h1]
  · rcases Nat.lt_or_ge k (a + e.length) with h2 | h2
    · rw [if_pos ⟨h1, h2⟩, List.getElem?_append_left (by rw [List.length_append, List.length_take]; omega), List.getElem?_append_right (by rw [List.length_take]; omega), List.length_take, Nat.min_eq_left (by omega)]
    · rw [if_neg (by omega), List.getElem?_append_right (by rw [List.length_append, List.length_take]; omega), List.length_append, List.length_take, Nat.min_eq_left (by omega), List.getElem?_drop]
      congr 1
      omega
/-- One element more is laid behind those that wait. -/
theorem Ring.put {bs d e : List UInt8} {f n count size : Nat} (h : Ring bs (f * size) d) (hm : bs.length = count * size) (hd : d.length = n * size) (he : e.length = size) (hn : n < count) :
    Ring (overB bs (((f + n) % count) * size) e) (f * size) (d ++ e) ∧ (((f + n) % count) * size) + e.length ≤ bs.length := by
  have hcs : n * size + size ≤ count * size := by
    have : (n + 1) * size ≤ count * size := Nat.mul_le_mul_right _ hn
    rw [Nat.add_mul, Nat.one_mul] at this
    exact this
  have hat : ((f + n) % count) * size + size ≤ count * size := by
    have h1 : (f + n) % count < count := Nat.mod_lt _ (by omega)
    have : ((f + n) % count + 1) * size ≤ count * size := Nat.mul_le_mul_right _ h1
    rw [Nat.add_mul, Nat.one_mul] at this
    exact this
  have hle : (((f + n) % count) * size) + e.length ≤ bs.length := by rw [he, hm]; exact hat
  refine ⟨fun i hi => ?_, hle⟩
  rw [overB_len hle, overB_get hle]
  rw [List.length_append, hd, he] at hi
  rcases Nat.lt_or_ge i (n * size) with h1 | h1
  · rw [List.getElem?_append_left (by omega), if_neg, h i (by omega)]
    intro ⟨h2, h3⟩
    obtain ⟨j, hj⟩ : ∃ j, (f * size + i) % bs.length = ((f + n) % count) * size + j := ⟨_, (Nat.add_sub_cancel' h2).symm⟩
    have hjs : j < size := by omega
    rw [ring_at f n count size j hjs, hm] at hj
    have := mod_apart (p := f * size) (m := count * size) (i := i) (j := n * size + j) (by omega) (by omega) hj
    omega
  · obtain ⟨j, rfl⟩ : ∃ j, i = n * size + j := ⟨i - n * size, by omega⟩
    have hjs : j < size := by omega
    have e1 : (f * size + (n * size + j)) % bs.length = ((f + n) % count) * size + j := by rw [hm, ring_at f n count size j hjs]
    rw [List.getElem?_append_right (by omega), e1, if_pos (by omega)]
    congr 1
    omega
theorem Ring.drop {bs d : List UInt8} {f k count size : Nat} (h : Ring bs (f * size) d) (hs : 0 < size) (hm : bs.length = count * size) : Ring bs (((f + k) % count) * size) (d.drop (k * size)) := by
  intro i hi
  rw [List.length_drop] at hi
  have e1 : (((f + k) % count) * size + i) % bs.length = (f * size + (k * size + i)) % bs.length := by
    rw [ring_place f k count size hs, hm, Nat.mod_add_mod]
    congr 1
    omega
  rw [e1, h (k * size + i) (by omega), List.getElem?_drop]
/-- What stands at a place is the element that waits there. -/
theorem Ring.elem {bs d : List UInt8} {f n k count size : Nat} (h : Ring bs (f * size) d) (hm : bs.length = count * size) (hd : d.length = n * size) (hk : k < n) (hn : n ≤ count) :
    (((f + k) % count) * size) + size ≤ bs.length ∧ (bs.drop (((f + k) % count) * size)).take size = (d.drop (k * size)).take size := by
  have hat : ((f + k) % count) * size + size ≤ count * size := by
    have h1 : (f + k) % count < count := Nat.mod_lt _ (by omega)
    have : ((f + k) % count + 1) * size ≤ count * size := Nat.mul_le_mul_right _ h1
    rw [Nat.add_mul, Nat.one_mul] at this
    exact this
  have hkn : k * size + size ≤ n * size := by
    have : (k + 1) * size ≤ n * size := Nat.mul_le_mul_right _ hk
    rw [Nat.add_mul, Nat.one_mul] at this
    exact this
  refine ⟨by rw [hm]; exact hat, List.ext_getElem? fun j => ?_⟩
  rcases Nat.lt_or_ge j size with h1 | h1
  · rw [List.getElem?_take_of_lt h1, List.getElem?_take_of_lt h1, List.getElem?_drop, List.getElem?_drop, ← h (k * size + j) (by omega), hm, ring_at f k count size j h1]
  · rw [List.getElem?_eq_none (by rw [List.length_take]; omega), List.getElem?_eq_none (by rw [List.length_take]; omega)]

/-- A ring at cell r of block c; g is the block of its bytes. -/
structure FHd (w : World) (c r count size g f : Nat) : Prop where
  c1 : w.cell? ⟨c, r, none⟩ = some (.int .i64 (count : Int))
  c2 : w.cell? ⟨c, r + 1, none⟩ = some (.int .i64 (size : Int))
  c3 : w.cell? ⟨c, r + 2, none⟩ = some (.slice (some ⟨g, 0, none⟩) (count * size) (count * size))
  c4 : w.cell? ⟨c, r + 3, none⟩ = some (.int .i64 (f : Int))
  lt : f < count
structure FIn (w : World) (c r count size : Nat) (d : List UInt8) (g f : Nat) (bs : List UInt8) : Prop where
  hd : FHd w c r count size g f
  c5 : w.cell? ⟨c, r + 4, none⟩ = some (.int .i64 ((d.length / size : Nat) : Int))
  len : bs.length = count * size
  row : Byts (.slice (some ⟨g, 0, none⟩) (count * size) (count * size)) bs w
  ring : Ring bs (f * size) d
structure FAt (w : World) (c o count size : Nat) (s : Re) (g : Nat) : Prop where
  c0 : w.cell? ⟨c, o, none⟩ = some (.bool s.op)
  typ : TBlk w g 5
  in' : s.op = true → ∃ f bs, FIn w c (o + 1) count size s.d g f bs
/-- What calls keep of an end. -/
structure ROK (count size : Nat) (s : Re) : Prop where
  num : ∃ n, s.d.length = n * size ∧ n ≤ count
  cl : s.op = false → s.d = []
def fpl (e : Nat) : Nat := 1 + e * 6
/-- A fifo in memory. -/
structure FMem (w : World) (c count size : Nat) (K : Nat → Re) (G : Nat → Nat) : Prop where
  typ : TBlk w c 136
  c0 : w.cell? ⟨c, 0, none⟩ = some (.int .i64 (size : Int))
  s : ∀ e, e < 2 → FAt w c (fpl e) count size (K e) (G e)
  ap : G 0 ≠ G 1
  r1 : 1 ≤ count
  r2 : count ≤ 1024
  r3 : 1 ≤ size
  r4 : size ≤ 64
  r5 : count * size ≤ 4096
  ok : ∀ e, e < 2 → ROK count size (K e)
def FFoot (c : Nat) (G : Nat → Nat) (k : Nat) : Prop := k = c ∨ k = G 0 ∨ k = G 1
section
variable {w w' : World} {c count size : Nat} {K : Nat → Re} {G : Nat → Nat}
theorem FHd.kept {r g f : Nat} {F : Nat → Prop} (h : FHd w c r count size g f) (t : Turn F w w') (hc : ¬ F c) : FHd w' c r count size g f :=
  ⟨t.cell h.c1 hc, t.cell h.c2 hc, t.cell h.c3 hc, t.cell h.c4 hc, h.lt⟩
theorem FHd.past {r g f : Nat} (h : FHd w c r count size g f) (t : Turn NoBlock w w') : FHd w' c r count size g f := h.kept t (fun h => h)
theorem FIn.kept {r g f : Nat} {d bs : List UInt8} {F : Nat → Prop} (h : FIn w c r count size d g f bs) (t : Turn F w w') (hc : ¬ F c) (hg : ¬ F g) : FIn w' c r count size d g f bs :=
  ⟨h.hd.kept t hc, t.cell h.c5 hc, h.len, h.row.kept t (fun k hk hf => hg (by simp [Blk, Value.ownBlock] at hk; subst hk; exact hf)), h.ring⟩
theorem FAt.kept {o g : Nat} {s : Re} {F : Nat → Prop} (h : FAt w c o count size s g) (t : Turn F w w') (hc : ¬ F c) (hg : ¬ F g) : FAt w' c o count size s g :=
  ⟨t.cell h.c0 hc, h.typ.kept t hg, fun ho => by obtain ⟨f, bs, hi⟩ := h.in' ho; exact ⟨f, bs, hi.kept t hc hg⟩⟩
theorem foot_g {e : Nat} (he : e < 2) : FFoot c G (G e) := by
  have : e = 0 ∨ e = 1 := by omega
  rcases this with rfl | rfl
  · exact .inr (.inl rfl)
  · exact .inr (.inr rfl)
theorem FMem.lt (h : FMem w c count size K G) {k : Nat} (hk : FFoot c G k) : k < w.heap.size := by
  rcases hk with rfl | rfl | rfl
  · exact h.typ.lt
  · exact (h.s 0 (by omega)).typ.lt
  · exact (h.s 1 (by omega)).typ.lt
theorem FMem.kept {F : Nat → Prop} (h : FMem w c count size K G) (t : Turn F w w') (hF : ∀ k, FFoot c G k → ¬ F k) : FMem w' c count size K G :=
  ⟨h.typ.kept t (hF c (.inl rfl)), t.cell h.c0 (hF c (.inl rfl)), fun e he => (h.s e he).kept t (hF c (.inl rfl)) (hF _ (foot_g he)), h.ap, h.r1, h.r2, h.r3, h.r4, h.r5, h.ok⟩
theorem FMem.past (h : FMem w c count size K G) (t : Turn NoBlock w w') : FMem w' c count size K G := h.kept t (fun _ _ h => h)
theorem FMem.cg (h : FMem w c count size K G) {e : Nat} (he : e < 2) : c ≠ G e := h.typ.unlike (h.s e he).typ (by decide)
theorem FMem.gg (h : FMem w c count size K G) {e i : Nat} (he : e < 2) (hi : i < 2) (hne : e ≠ i) : G e ≠ G i := by
  have : (e = 0 ∧ i = 1) ∨ (e = 1 ∧ i = 0) := by omega
  rcases this with ⟨rfl, rfl⟩ | ⟨rfl, rfl⟩
  · exact h.ap
  · exact fun e => h.ap e.symm
/-- One end's change makes a fifo again. -/
theorem FMem.step (h : FMem w c count size K G) {e : Nat} (he : e < 2) {s' : Re} (t : Turn (fun k => k = c ∨ k = G e) w w') (hty : TBlk w' c 136) (hcells : ∀ j, ¬ (fpl e ≤ j ∧ j < fpl e + 6) → w'.cell? ⟨c, j, none⟩ = w.cell? ⟨c, j, none⟩)
    (ha : FAt w' c (fpl e) count size s' (G e)) (hok : ROK count size s') : FMem w' c count size (updN K e s') G := by
  refine ⟨hty, (hcells 0 (by unfold fpl; omega)).trans h.c0, fun i hi => ?_, h.ap, h.r1, h.r2, h.r3, h.r4, h.r5, fun i hi => ?_⟩
  · by_cases hie : i = e
    · subst hie; rw [updN_same]; exact ha
    · rw [updN_other _ _ hie]
      have hs := h.s i hi
      have hcell : ∀ j, j < 6 → w'.cell? ⟨c, fpl i + j, none⟩ = w.cell? ⟨c, fpl i + j, none⟩ := fun j hj => hcells _ (by unfold fpl; omega)
      have hg : ¬ (G i = c ∨ G i = G e) := fun h1 => h1.elim (fun h2 => h.cg hi h2.symm) (h.gg hi he hie)
      refine ⟨(hcell 0 (by omega)).trans hs.c0, hs.typ.kept t hg, fun ho => ?_⟩
      obtain ⟨f, bs, hn⟩ := hs.in' ho
      exact ⟨f, bs, ⟨(hcell 1 (by omega)).trans hn.hd.c1, (hcell 2 (by omega)).trans hn.hd.c2, (hcell 3 (by omega)).trans hn.hd.c3, (hcell 4 (by omega)).trans hn.hd.c4, hn.hd.lt⟩, (hcell 5 (by omega)).trans hn.c5, hn.len,
        hn.row.kept t (fun k hk hf => hg (by simp [Blk, Value.ownBlock] at hk; subst hk; exact hf)), hn.ring⟩
  · by_cases hie : i = e
    · subst hie; rw [updN_same]; exact hok
    · rw [updN_other _ _ hie]; exact h.ok i hi
theorem FMem.same (h : FMem w c count size K G) {K' : Nat → Re} (hk : K' = K) : FMem w c count size K' G := hk ▸ h
end
/-- The blocks of X are as they were. -/
def Kp (X : Nat → Prop) (w w' : World) : Prop := ∃ F, Turn F w w' ∧ ∀ k, X k → ¬ F k
theorem Kp.row {X : Nat → Prop} {w w' : World} {e size n : Nat} {v : Value} {xs : List Value} (h : Kp X w w') (hr : WRow w e size v n xs) (hv : ∀ k, Blk v k → X k) : WRow w' e size v n xs := by
  obtain ⟨F, t, hF⟩ := h
  exact hr.kept t (fun k hk => hF k (hv k hk))
theorem Kp.heap {X : Nat → Prop} {w w' : World} {k : Nat} {o : Obj} (h : Kp X w w') (hk : w.heap[k]? = some o) (hx : X k) : w'.heap[k]? = some o := by
  obtain ⟨F, t, hF⟩ := h
  exact t.heap hk (hF k hx)
theorem Kp.of_past {X : Nat → Prop} {w w' : World} (t : Turn NoBlock w w') : Kp X w w' := ⟨_, t, fun _ _ h => h⟩
theorem wrap_fit (x : Int) (h : fit x) : IntKind.i64.wrap x = x := by
  unfold fit at h
  have e : IntKind.i64.wrap x = (if x % 18446744073709551616 ≥ 9223372036854775808 then x % 18446744073709551616 - 18446744073709551616 else x % 18446744073709551616) := by
    simp [IntKind.wrap, IntKind.bits, IntKind.signed]
  rw [e]; split <;> omega
/-- A law's state: behind w0 a fifo of the ends K in blocks that came behind w0; the blocks of X lie beside it. -/
structure FSt (w0 w : World) (c count size : Nat) (K : Nat → Re) (G : Nat → Nat) (X : Nat → Prop) : Prop where
  mem : FMem w c count size K G
  turn : Turn NoBlock w0 w
  fresh : ∀ k, FFoot c G k → w0.heap.size ≤ k
  ap : ∀ k, X k → k < w.heap.size ∧ ¬ FFoot c G k
section
variable {w0 w w' : World} {c count size : Nat} {K K' : Nat → Re} {G : Nat → Nat} {X Y : Nat → Prop}
theorem FSt.past (h : FSt w0 w c count size K G X) (t : Turn NoBlock w w') : FSt w0 w' c count size K G X :=
  ⟨h.mem.past t, h.turn.trans t (fun _ h => .inl h), h.fresh, fun k hk => ⟨Nat.lt_of_lt_of_le (h.ap k hk).1 t.size, (h.ap k hk).2⟩⟩
theorem FSt.fewer (h : FSt w0 w c count size K G X) (hY : ∀ k, Y k → X k) : FSt w0 w c count size K G Y := ⟨h.mem, h.turn, h.fresh, fun k hk => h.ap k (hY k hk)⟩
theorem FSt.more (h : FSt w0 w c count size K G X) (t : Turn X w w') (hY : ∀ k, Y k → X k ∨ (w.heap.size ≤ k ∧ k < w'.heap.size)) (hX : ∀ k, X k → w0.heap.size ≤ k) : FSt w0 w' c count size K G Y := by
  refine ⟨h.mem.kept t (fun k hk hx => (h.ap k hx).2 hk), h.turn.trans t (fun k hk => .inr (hX k hk)), h.fresh, fun k hk => ?_⟩
  rcases hY k hk with h6 | h6
  · exact ⟨Nat.lt_of_lt_of_le (h.ap k h6).1 t.size, (h.ap k h6).2⟩
  · exact ⟨h6.2, fun hh => by have := h.mem.lt hh; omega⟩
theorem FSt.made (h : FSt w0 w c count size K G X) (hm : FMem w' c count size K' G) (t : Turn (FFoot c G) w w') : FSt w0 w' c count size K' G X ∧ Kp X w w' :=
  ⟨⟨hm, h.turn.trans t (fun k hk => .inr (h.fresh k hk)), h.fresh, fun k hk => ⟨Nat.lt_of_lt_of_le (h.ap k hk).1 t.size, (h.ap k hk).2⟩⟩, _, t, fun k hk => (h.ap k hk).2⟩
theorem FSt.ok (h : FSt w0 w c count size K G X) {e : Nat} (he : e < 2) : ROK count size (K e) := h.mem.ok e he
end
end Go.Proofs.Ytocaebcbmfejbaa
