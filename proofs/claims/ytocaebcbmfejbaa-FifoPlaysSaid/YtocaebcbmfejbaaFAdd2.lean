/-
  What add of a ring answers, and what it makes of it. No conditions but that the ring is in memory, and that the bytes are whole elements.
-/
import Derived.Test.YtocaebcbmfejbaaFAdd
import Derived.Deep.RegionHeld3
import Derived.RangeFuncBox
namespace Go.Proofs.Ytocaebcbmfejbaa
open Go.ChangeShapes Go.WideShapes Go.ChangeAt Go.RowKit Go.Shelf

attribute [local go_sem] Oper.semAt_some

theorem turn_putObj (W : World) (l : Nat) (o : Obj) : Turn (fun k => k = l) W (W.putObj l o) := by
  have h1 := grownBy_putObj' W l o
  exact ⟨h1.os, h1.tape, h1.output, h1.size, fun k hk hn => h1.block k hk (fun e => hn (by cases e; rfl))⟩
theorem turn_of_grown {X Y : World} {row : Option Nat} (hg : X.grownBy Y row) : Turn (fun k => row = some k) X Y := ⟨hg.os, hg.tape, hg.output, hg.size, fun k hk hn => hg.block k hk (fun e => hn e.symm)⟩
theorem PSees.kept {Bn Br Bf c r count size g f m n : Nat} {W W' : World} {F : Nat → Prop} (h : PSees Bn Br Bf c r count size g f m n W) (t : Turn F W W') (hF : ∀ k, k = Bn ∨ k = Br ∨ k = Bf ∨ k = c → ¬ F k) : PSees Bn Br Bf c r count size g f m n W' :=
  ⟨Boxed.kept' h.bn t (hF _ (.inl rfl)), Boxed.kept' h.br t (hF _ (.inr (.inl rfl))), Boxed.kept' h.bf t (hF _ (.inr (.inr (.inl rfl)))), h.hd.kept t (hF _ (.inr (.inr (.inr rfl))))⟩
theorem psees_new {w W1 : World} {c r count size g f S : Nat} (h : FHd w c r count size g f) (t : Turn NoBlock w W1) (hs : W1.heap.size = S) (m : Nat) {n : Nat} : PSees (S + 2) S (S + 1) c r count size g f m n (((W1.alloc (.cells #[.pointer (some ⟨c, r, none⟩)] 139)).alloc (.cells #[.int .i64 (m : Int)] 3)).alloc (.cells #[.int .i64 (n : Int)] 3)).drew := by
  have b0 := Boxed.new W1 139 (.pointer (some ⟨c, r, none⟩))
  have b1 := Boxed.new (W1.alloc (.cells #[.pointer (some ⟨c, r, none⟩)] 139)) 3 (.int .i64 (m : Int))
  have b2 := Boxed.new ((W1.alloc (.cells #[.pointer (some ⟨c, r, none⟩)] 139)).alloc (.cells #[.int .i64 (m : Int)] 3)) 3 (.int .i64 (n : Int))
  simp only [World.size_alloc, hs] at b0 b1 b2
  exact ⟨b2, (b0.alloc _).alloc _, b1.alloc _, h.past (TT t ((((Turn.refl NoBlock W1).alloc _).alloc _).alloc _).drew)⟩
theorem last_k {k t size B L : Nat} (h1 : B = k * size) (h2 : B - t * size = L) (h3 : L - size = 0) (hs : 1 ≤ size) (ht : t < k) : t + 1 = k := by
  rcases Nat.lt_or_ge (t + 1) k with h | h
  · have h4 : (t + 2) * size ≤ k * size := Nat.mul_le_mul_right _ h
    rw [Nat.add_mul] at h4
    omega
  · omega
theorem more_k {k t size B L : Nat} (h1 : B = k * size) (h2 : B - t * size = L) (h3 : ¬ L - size = 0) (hs : 1 ≤ size) (ht : t < k) : t + 1 < k := by
  refine Nat.lt_of_le_of_ne ht (fun e => h3 ?_)
  have h4 : (t + 1) * size = k * size := by rw [e]
  rw [Nat.add_mul, Nat.one_mul] at h4
  omega
/-- What holds ahead of add's t-th round: the bytes that came already stand in the ring. -/
structure AInv (w : World) (E c r count size g f n k t : Nat) (d b : List UInt8) (X : World) : Prop where
  see : PSees (E + 2 + 2) (E + 2) (E + 2 + 1) c r count size g f n (count - n) X
  bn : Boxed X (E + 1) 3 (.int .i64 (t : Int))
  bb : ∃ vb, Boxed X E 35 vb ∧ Rk X vb (b.drop (t * size)) ∧ Off vb g ∧ ∀ k, Blk vb k → k < E
  row : ∃ bs, bs.length = count * size ∧ Byts (.slice (some ⟨g, 0, none⟩) (count * size) (count * size)) bs X ∧ Ring bs (f * size) (d ++ b.take (t * size))
  turn : Turn (fun k => k = g) w X
  le : t ≤ k
section
variable {w X Y : World} {E c r count size g f n k t : Nat} {d b : List UInt8}
theorem AInv.kept {F : Nat → Prop} (h : AInv w E c r count size g f n k t d b X) (hE : w.heap.size = E) (hc : c < E) (hg : g < E) (tn : Turn F X Y) (hF : ∀ k, F k → E + 5 ≤ k) : AInv w E c r count size g f n k t d b Y := by
  have lo : ∀ k, k < E + 5 → ¬ F k := fun k hk hf => by have := hF k hf; omega
  obtain ⟨vb, b1, b2, b3, b4⟩ := h.bb
  obtain ⟨bs, r1, r2, r3⟩ := h.row
  refine ⟨h.see.kept tn (fun j hj => lo j (by omega)), Boxed.kept' h.bn tn (lo _ (by omega)), ⟨vb, Boxed.kept' b1 tn (lo _ (by omega)), b2.kept tn (fun j hj i hi e => by have := hF j hj; have := b4 i hi; omega), b3, b4⟩,
    ⟨bs, r1, r2.kept tn (fun j hj => lo j (by have : g = j := by simpa [Blk, Value.ownBlock] using hj
                                              omega)), r3⟩, h.turn.trans tn (fun j hj => .inr (by have := hF j hj; omega)), h.le⟩
theorem ainv_own {A : Type} (T : A → Nat) {B : Nat} (hE : w.heap.size = E) (hc : c < E) (hg : g < E) (hB : E + 5 ≤ B) : OwnFrom B (fun (s : A) X => AInv w E c r count size g f n k (T s) d b X) :=
  fun s X Y row hs hgr hr => hs.kept hE hc hg (turn_of_grown hgr) (fun j hj => by have := (hr j hj).1; omega)
/-- A round: one element more stands in the ring. -/
theorem AInv.next (h : AInv w E c r count size g f n k t d b X) (hE : w.heap.size = E) (hc : c < E) (hg : g < E) (hcg : c ≠ g) (hd : d.length = n * size) (h1 : 1 ≤ size) (ht : t < k) (htN : t < count - n) (hk : b.length = k * size)
    {vb : Value} (hvb : Boxed X E 35 vb) {p : Option Addr} {l ca : Nat} (hrk : Rk (X.drew.setCells g (((f + (n + t)) % count) * size) (bcells ((b.drop (t * size)).take size))) (.slice p l ca) ((b.drop (t * size)).drop size)) (ho : ∀ x, Off vb x → Off (.slice p l ca) x) :
    AInv w E c r count size g f n k (t + 1) d b (((X.drew.setCells g (((f + (n + t)) % count) * size) (bcells ((b.drop (t * size)).take size))).setCell ⟨E, 0, none⟩ (.slice p l ca)).setCell ⟨E + 1, 0, none⟩ (.int .i64 ((t + 1 : Nat) : Int))) := by
  obtain ⟨vb', b1, b2, b3, b4⟩ := h.bb
  have hv : vb' = vb := by
    have e := b1.cell
    rw [hvb.cell] at e
    simpa using e.symm
  subst hv
  obtain ⟨bs, r1, r2, r3⟩ := h.row
  have htk : (t + 1) * size ≤ k * size := Nat.mul_le_mul_right _ ht
  rw [Nat.add_mul, Nat.one_mul] at htk
  have hel : ((b.drop (t * size)).take size).length = size := by rw [List.length_take, List.length_drop, hk]; omega
  have hdl : (d ++ b.take (t * size)).length = (n + t) * size := by rw [List.length_append, List.length_take, hd, hk, Nat.min_eq_left (by omega), Nat.add_mul]
  obtain ⟨q1, q2⟩ := r3.put r1 hdl hel (by omega)
  obtain ⟨s1, s2⟩ := byts_sets (w := X.drew) (r1 ▸ r2.past (Turn.refl _ X).drew) q2
  rw [r1] at s1
  generalize hW3 : X.drew.setCells g (((f + (n + t)) % count) * size) (bcells ((b.drop (t * size)).take size)) = W3 at *
  have t3 : Turn (fun k => k = g) X W3 := ((Turn.refl _ X).drew).trans s2 (fun _ h => .inl h)
  have x0 : Boxed W3 E 35 vb' := Boxed.kept' b1 t3 (by omega)
  have x1 : Boxed W3 (E + 1) 3 (.int .i64 (t : Int)) := Boxed.kept' h.bn t3 (by omega)
  have t4 : Turn (fun k => k = E ∨ k = E + 1) W3 ((W3.setCell ⟨E, 0, none⟩ (.slice p l ca)).setCell ⟨E + 1, 0, none⟩ (.int .i64 ((t + 1 : Nat) : Int))) := ((Turn.refl _ W3).setCell (p := ⟨E, 0, none⟩) (.inl (.inl rfl)) _).setCell (p := ⟨E + 1, 0, none⟩) (.inl (.inr rfl)) _
  have y0 : Boxed (W3.setCell ⟨E, 0, none⟩ (.slice p l ca)) E 35 (.slice p l ca) := set_at x0 0 _
  have y1 : Boxed (W3.setCell ⟨E, 0, none⟩ (.slice p l ca)) (E + 1) 3 (.int .i64 (t : Int)) := set_past x1 (p := ⟨E, 0, none⟩) (by show E + 1 ≠ E; omega) _
  have z0 : Boxed ((W3.setCell ⟨E, 0, none⟩ (.slice p l ca)).setCell ⟨E + 1, 0, none⟩ (.int .i64 ((t + 1 : Nat) : Int))) E 35 (.slice p l ca) := set_past y0 (p := ⟨E + 1, 0, none⟩) (by show E ≠ E + 1; omega) _
  have z1 : Boxed ((W3.setCell ⟨E, 0, none⟩ (.slice p l ca)).setCell ⟨E + 1, 0, none⟩ (.int .i64 ((t + 1 : Nat) : Int))) (E + 1) 3 (.int .i64 ((t + 1 : Nat) : Int)) := set_at y1 0 _
  have hdr : (b.drop (t * size)).drop size = b.drop ((t + 1) * size) := by rw [List.drop_drop, Nat.add_mul, Nat.one_mul]
  have htk2 : b.take (t * size) ++ (b.drop (t * size)).take size = b.take ((t + 1) * size) := by rw [Nat.add_mul, Nat.one_mul, List.take_add]
  rw [hdr] at hrk
  rw [List.append_assoc, htk2] at q1
  have hblk : ∀ k, Blk (.slice p l ca) k → k < E := fun j hj => Classical.byContradiction fun hn => (ho j (fun i hi e => by have := b4 i hi; omega)) j hj rfl
  refine ⟨(h.see.kept t3 (fun j hj => ?_)).kept t4 (fun j hj => ?_), z1, ⟨_, z0, hrk.kept t4 (fun j hj i hi e => ?_), ho _ b3, hblk⟩, ⟨_, by rw [overB_len q2, r1], s1.kept t4 (fun j hj => ?_), q1⟩, (h.turn.trans t3 (fun _ h => .inl h)).trans t4 (fun j hj => .inr ?_), by omega⟩
  · rcases hj with h | h | h | h <;> omega
  · have := hc; omega
  · have := hblk i hi; omega
  · have : g = j := by simpa [Blk, Value.ownBlock] using hj
    omega
  · omega
/-- Behind the rounds: how many wait is told anew. -/
theorem AInv.fin {bs0 : List UInt8} (h : AInv w E c r count size g f n k t d b X) (h0 : FIn w c r count size d g f bs0) (hty : TBlk w c 136) (hcg : c ≠ g) (hd : d.length = n * size) (h1 : 1 ≤ size) (hk : b.length = k * size) (Z : World) {F : Nat → Prop}
    (ho : Turn F (X.setCell ⟨c, r + 4, none⟩ (.int .i64 ((n : Int) + (t : Int)))) Z) (hF : ∀ k, F k → w.heap.size ≤ k) :
    (∃ bs', FIn Z c r count size (d ++ b.take (t * size)) g f bs') ∧ Turn (fun k => k = c ∨ k = g) w Z ∧ (∀ j, j ≠ r + 4 → Z.cell? ⟨c, j, none⟩ = w.cell? ⟨c, j, none⟩) ∧ TBlk Z c 136 := by
  obtain ⟨bs, r1, r2, r3⟩ := h.row
  have t1 := h.turn
  have hgl : g < w.heap.size := (h0.row.typed (k := g) rfl).lt
  have t2 : Turn (fun k => k = c) X (X.setCell ⟨c, r + 4, none⟩ (.int .i64 ((n : Int) + (t : Int)))) := (Turn.refl (fun k => k = c) X).setCell (p := ⟨c, r + 4, none⟩) (.inl rfl) _
  have hty2 : TBlk (X.setCell ⟨c, r + 4, none⟩ (.int .i64 ((n : Int) + (t : Int)))) c 136 := (hty.kept t1 hcg).set _ _ _
  have hcF : ¬ F c := fun hf => by have := hF c hf; have := hty.lt; omega
  have hgF : ¬ F g := fun hf => by have := hF g hf; omega
  have hce : ∀ j, X.cell? ⟨c, j, none⟩ = w.cell? ⟨c, j, none⟩ := fun j => World.cell?_of_block (a := ⟨c, j, none⟩) (t1.block c hty.lt hcg)
  have hz : ∀ j, Z.cell? ⟨c, j, none⟩ = (X.setCell ⟨c, r + 4, none⟩ (.int .i64 ((n : Int) + (t : Int)))).cell? ⟨c, j, none⟩ := fun j => World.cell?_of_block (a := ⟨c, j, none⟩) (ho.block c hty2.lt hcF)
  have hj : ∀ j, j ≠ r + 4 → Z.cell? ⟨c, j, none⟩ = w.cell? ⟨c, j, none⟩ := fun j hj => by rw [hz, cell_set_other (by omega)]; exact hce j
  have hle := h.le
  have htk : t * size ≤ k * size := Nat.mul_le_mul_right _ hle
  have hlen : (d ++ b.take (t * size)).length / size = n + t := by
    rw [List.length_append, List.length_take, hd, hk, Nat.min_eq_left htk, ← Nat.add_mul, Nat.mul_div_cancel _ (by omega)]
  have hbg : ∀ k, Blk (.slice (some ⟨g, 0, none⟩) (count * size) (count * size)) k → g = k := fun k hk => by simpa [Blk, Value.ownBlock] using hk
  refine ⟨⟨bs, ⟨(hj _ (by omega)).trans h0.hd.c1, (hj _ (by omega)).trans h0.hd.c2, (hj _ (by omega)).trans h0.hd.c3, (hj _ (by omega)).trans h0.hd.c4, h0.hd.lt⟩, ?_, r1, (r2.kept t2 (fun k hk e => ?_)).kept ho (fun k hk e => ?_), r3⟩, ((t1.mono (fun k hk => .inl (.inr hk))).trans t2 (fun k hk => .inl (.inl hk))).trans ho (fun k hk => .inr (hF k hk)), hj, hty2.kept ho hcF⟩
  · rw [hlen, hz]
    exact World.cell?_setCell_same' _ _ _ (by rw [hce, h0.c5]; rfl)
  · exact hcg (e.symm.trans (hbg k hk).symm)
  · exact hgF (by rw [hbg k hk]; exact e)
end

set_option linter.unusedSimpArgs false in
set_option linter.unusedVariables false in
set_option maxRecDepth 100000 in
set_option maxHeartbeats 4000000 in
theorem fadd {w : World} {c r count size g f : Nat} {d bs : List UInt8} (h : FIn w c r count size d g f bs) (hty : TBlk w c 136) (hcg : c ≠ g) (n : Nat) (hd : d.length = n * size) (hn : n < count) (h1 : 1 ≤ size) (h2 : size ≤ 64) (h3 : count ≤ 1024) (h4 : count * size ≤ 4096)
    {vb : Value} {b : List UInt8} (hb : Rk w vb b) (hoff : Off vb g) (hlt : ∀ k, Blk vb k → k < w.heap.size) (k : Nat) (hk : b.length = k * size) (hk0 : 0 < k) (hbl : b.length ≤ 1000000000) :
    Calls Try.prog 84 #[.pointer (some ⟨c, r, none⟩), vb] w fun e w' => e = .returned (.int .i64 ((min k (count - n) : Nat) : Int)) ∧ (∃ bs', FIn w' c r count size (d ++ b.take (min k (count - n) * size)) g f bs') ∧ Turn (fun k => k = c ∨ k = g) w w' ∧ (∀ j, j ≠ r + 4 → w'.cell? ⟨c, j, none⟩ = w.cell? ⟨c, j, none⟩) ∧ TBlk w' c 136 := by
  have e5 := h.c5
  have e1 := h.hd.c1
  have hcl := hty.lt
  have hgl := (h.row.typed (k := g) rfl).lt
  rw [hd, Nat.mul_div_cancel _ (show 0 < size by omega)] at e5
  obtain ⟨N, hN⟩ : ∃ N, count - n = N := ⟨_, rfl⟩
  have CP := Lib.hid (fun W => fplaces W ⟨c, r, none⟩ (n : Int) (N : Int))
  have ew : IntKind.i64.wrap ((count : Int) - (n : Int)) = (N : Int) := by rw [show (count : Int) - n = (N : Int) by omega]; exact wrap_nat _ (by omega)
  obtain ⟨pb, cb, rfl⟩ := hb.rz.sl
  have HB := Lib.hid (And.intro hb (And.intro hoff hlt))
  have H := Lib.hid (And.intro h (And.intro hty hcg))
  have HN := Lib.hid (And.intro hd (And.intro hn (And.intro h1 (And.intro h2 (And.intro h3 h4)))))
  have HK := Lib.hid (And.intro hk (And.intro hk0 hbl))
  clear hb hoff hlt h hty hcg hd hn h1 h2 h3 h4 hk hk0 hbl
  refine (callsIn_wide (n := 6)).1 ?_
  refine callsIn_of_wp_marks (F := Fence.wide) Try.func84 rfl trivial ?_ rfl
  simp only [Try.ntmps84, List.size_toArray, List.length_cons, List.length_nil, Nat.reduceAdd, Nat.reduceSub, Array.replicate_succ, Array.replicate_zero, List.push_toArray, List.append_toArray, List.nil_append, List.cons_append]
  gi_wp2
  obtain ⟨E, hE⟩ : ∃ E, w.heap.size = E := ⟨_, rfl⟩
  have hs1 : ((w.alloc (.cells #[.slice pb b.length cb] 35)).alloc (.cells #[.int .i64 0] 3)).heap.size = E + 2 := by simp [hE]
  have bx0 := (Boxed.new w 35 (.slice pb b.length cb)).alloc (.cells #[.int .i64 0] 3)
  have bx1 := Boxed.new (w.alloc (.cells #[.slice pb b.length cb] 35)) 3 (.int .i64 0)
  rw [World.size_alloc, hE] at bx1
  rw [hE] at bx0
  have t1 : Turn NoBlock w ((w.alloc (.cells #[.slice pb b.length cb] 35)).alloc (.cells #[.int .i64 0] 3)) := ((Turn.refl _ w).alloc _).alloc _
  generalize (w.alloc (.cells #[.slice pb b.length cb] 35)).alloc (.cells #[.int .i64 0] 3) = W1 at *
  rw [hE]
  refine wpIn_wide.2 ?_
  go_region_held3 (fun W' => W'.cell? ⟨c, r + 4, none⟩ = some (.int .i64 (n : Int)) ∧ W'.cell? ⟨c, r, none⟩ = some (.int .i64 (count : Int)) ∧ Turn NoBlock W1 W') (first | exact ⟨t1.cell e5 (fun h => h), t1.cell e1 (fun h => h), (Turn.refl _ _).drew⟩ | exact (fun t => ⟨(TT t1 t).cell e5 (fun h => h), (TT t1 t).cell e1 (fun h => h), t⟩) (((((Turn.refl NoBlock W1).drew).alloc _).alloc _).alloc _)) (first
    | (go_at_call 98; (with_reducible refine (CP.out _).mono ?_); rintro e w2 ⟨rfl, rfl⟩))
  have hsee := psees_new (n := N) H.out.1.hd t1 hs1 n
  have t2 : Turn NoBlock W1 (((W1.alloc (.cells #[.pointer (some ⟨c, r, none⟩)] 139)).alloc (.cells #[.int .i64 (n : Int)] 3)).alloc (.cells #[.int .i64 (N : Int)] 3)).drew := ((((Turn.refl _ W1).alloc _).alloc _).alloc _).drew
  have hs2 : (((W1.alloc (.cells #[.pointer (some ⟨c, r, none⟩)] 139)).alloc (.cells #[.int .i64 (n : Int)] 3)).alloc (.cells #[.int .i64 (N : Int)] 3)).drew.heap.size = E + 5 := by show (((W1.alloc _).alloc _).alloc _).heap.size = _; simp only [World.size_alloc]; omega
  generalize (((W1.alloc (.cells #[.pointer (some ⟨c, r, none⟩)] 139)).alloc (.cells #[.int .i64 (n : Int)] 3)).alloc (.cells #[.int .i64 (N : Int)] 3)).drew = W2 at *
  have hA0 : AInv w E c r count size g f n k 0 d b W2 := by
    obtain ⟨hb1, hb2, hb3⟩ := HB.out
    refine ⟨by rw [hN]; exact hsee, Boxed.kept' bx1 t2 (fun h => h), ⟨_, Boxed.kept' bx0 t2 (fun h => h), by simpa using hb1.past (TT t1 t2), hb2, fun j hj => by rw [← hE]; exact hb3 j hj⟩, ⟨bs, H.out.1.len, H.out.1.row.past (TT t1 t2), by simpa using H.out.1.ring⟩, TU (TT t1 t2), Nat.zero_le _⟩
  have hcE : c < E := by omega
  have hgE : g < E := by omega
  clear hsee t2 t1 bx0 bx1 e5 e1 ew hs1
  gi_wp2
  refine range2 (gf := 103) (lb := #[.pointer (some ⟨E + 2 + 2, 0, none⟩), .pointer (some ⟨E + 2, 0, none⟩), .pointer (some ⟨E + 2 + 1, 0, none⟩)]) rfl (enters_of Try.func103 (by kernel_rfl) rfl)
    (places_gives (E + 2 + 2) (E + 2) (E + 2 + 1) c r count size g f n N HN.out.2.2.2.2.1 HN.out.2.2.1 HN.out.2.2.2.1 HN.out.2.2.2.2.2 (by have := HN.out; omega)) (fun _ => rfl)
    (fun pre X => AInv w E c r count size g f n k pre.length d b X ∧ pre.length < k ∧ pre.length ≤ N)
    (fun cc pre X => cc = .exit 0 ∧ AInv w E c r count size g f n k pre.length d b X ∧ pre.length = k ∧ pre.length ≤ N) ?hI ?hIx (fun pre X hh => by have := hh.1.see; rw [hN] at this; exact this) ⟨hA0, HK.out.2.1, Nat.zero_le _⟩
    (fun i a' X => a' = { tmps := #[.pointer (some ⟨c, r, none⟩), .slice pb b.length cb, undef, .pointer (some ⟨E, 0, none⟩), .int .i64 0, .pointer (some ⟨E + 1, 0, none⟩), atP count size g f n i, .pointer (some ⟨c, r, none⟩), .pointer (some ⟨c, r, none⟩), .pointer (some ⟨c, r, none⟩), .pointer (some ⟨c, r + 4, none⟩), .int .i64 (n : Int), .pointer (some ⟨c, r, none⟩), .pointer (some ⟨c, r, none⟩), .pointer (some ⟨c, r, none⟩), .int .i64 (count : Int), .pointer (some ⟨c, r, none⟩), .pointer (some ⟨c, r, none⟩), .pointer (some ⟨c, r + 4, none⟩), .int .i64 (n : Int), .int .i64 (N : Int), .func (.func 103) #[] #[.pointer (some ⟨E + 2 + 2, 0, none⟩), .pointer (some ⟨E + 2, 0, none⟩), .pointer (some ⟨E + 2 + 1, 0, none⟩)], atP count size g f n i, undef, undef, undef, undef, undef, undef, undef, undef, undef, undef, undef, undef, undef, undef, undef, undef, undef, undef, undef], defers := [] }) ?hAx ?assign ?body ?done ?stop
  case hI =>
    rintro pre X Y row ⟨h1, h2⟩ hg hr
    exact ⟨ainv_own (A := List Nat) (fun pre => pre.length) hE hcE hgE (by omega) pre X Y row h1 hg hr, h2⟩
  case hIx =>
    rintro cc pre X Y row ⟨h0, h1, h2⟩ hg hr
    exact ⟨h0, ainv_own (A := List Nat) (fun pre => pre.length) hE hcE hgE (by omega) pre X Y row h1 hg hr, h2⟩
  case hAx =>
    rintro i a' - X Y row rfl hg hr
    rfl
  case assign =>
    rintro l pre i X K hI ⟨hi, hiN⟩ hX hK
    subst hi
    have HKK := Lib.hid hK
    have HI := Lib.hid hI
    unfold atP
    clear hI hK
    gi_wp2
    exact HKK.out _ _ (KeepsAll.refl _ _) HI.out rfl
  case body =>
    rintro l pre i a' X hX ⟨hA, hlt, hle⟩ rfl ⟨hi, hiN⟩
    subst hi
    obtain ⟨t, ht⟩ : ∃ t, pre.length = t := ⟨_, rfl⟩
    have hsn : (pre ++ [t]).length = t + 1 := by rw [List.length_append, ht]; rfl
    rw [ht] at hA hlt hle hiN ⊢
    obtain ⟨vb, b1, b2, b3, b4⟩ := hA.bb
    obtain ⟨bs2, r1, r2, r3⟩ := hA.row
    have hn := HN.out
    have hk := HK.out
    have htk : (t + 1) * size ≤ k * size := Nat.mul_le_mul_right _ hlt
    rw [Nat.add_mul, Nat.one_mul] at htk
    have hdl : (b.drop (t * size)).length = b.length - t * size := List.length_drop
    have hpl : ((f + (n + t)) % count) * size + size ≤ count * size := by
      have h1 : (f + (n + t)) % count < count := Nat.mod_lt _ (by omega)
      have : ((f + (n + t)) % count + 1) * size ≤ count * size := Nat.mul_le_mul_right _ h1
      rw [Nat.add_mul, Nat.one_mul] at this
      exact this
    obtain ⟨A, hA'⟩ : ∃ A, ((f + (n + t)) % count) * size = A := ⟨_, rfl⟩
    rw [hA'] at hpl
    have hrz : RzB X.drew vb (b.drop (t * size)) := (b2.past (Turn.refl _ X).drew).rz
    have ecp := copy_row X.drew g A size size size vb (b.drop (t * size)) hrz (by omega) (by omega) (fun j hj => by
      have r2' := r2.past (Turn.refl _ X).drew
      have := (r2'.form.resolve_left (fun h => by cases h.1))
      obtain ⟨g', o, cap, h1, _, _, _, h5, h6⟩ := this
      simp only [Value.slice.injEq, Option.some.injEq, Addr.mk.injEq, and_true] at h1
      obtain ⟨⟨rfl, rfl⟩, _, rfl⟩ := h1
      have := h6 (A + j) (by omega)
      rwa [Nat.zero_add] at this) (fun j => ((r2.typed (k := g) rfl).kept (Turn.refl NoBlock X).drew (fun h => h)).free j)
    have e0 : X.drew.cell? ⟨E, 0, none⟩ = some vb := b1.cell
    have tW : Turn (fun k => k = g) X.drew (X.drew.setCells g A (bcells ((b.drop (t * size)).take size))) := wturn_sets (F := fun k => k = g) rfl _ _ _ _ (Turn.refl _ _)
    have hEg : E ≠ g := by omega
    have b5 : Boxed (X.drew.setCells g A (bcells ((b.drop (t * size)).take size))) E 35 vb := Boxed.kept' (Boxed.kept' b1 (Turn.refl NoBlock X).drew (fun h => h)) tW hEg
    have e3 := b5.cell
    have e4 := b5.frozen
    have hr3 := (b2.past (Turn.refl NoBlock X).drew).kept tW (fun j hj => by subst hj; exact b3)
    obtain ⟨p, ca, hsl, hr4, ho4⟩ := rk_drop hr3 (n := size) (by omega)
    have hnx := hA.next hE hcE hgE H.out.2.2 hn.1 hn.2.2.1 hlt (by omega) hk.1 b1 (by rw [hA']; exact hr4) ho4
    rw [hA'] at hnx
    have HNX := Lib.hid hnx
    have x1 : Boxed (X.drew.setCells g A (bcells ((b.drop (t * size)).take size))) (E + 1) 3 (.int .i64 (t : Int)) := Boxed.kept' (Boxed.kept' hA.bn (Turn.refl NoBlock X).drew (fun h => h)) tW (by omega)
    have l5 := b5.lt
    have l6 := x1.lt
    have f1 := x1.cell
    have f2 := x1.frozen
    obtain ⟨pv, cv, hvb⟩ := hrz.sl
    subst hvb
    have HKE : KeepsAll W2.heap.size X (((X.drew.setCells g A (bcells ((b.drop (t * size)).take size))).setCell ⟨E, 0, none⟩ (.slice p ((b.drop (t * size)).length - size) ca)).setCell ⟨E + 1, 0, none⟩ (.int .i64 ((t + 1 : Nat) : Int))) := KeepsAll.of_turn (F := fun j => j = g ∨ j = E ∨ j = E + 1) ((((Turn.refl _ X).drew.trans tW (fun _ h => .inl (.inl h))).setCell (p := ⟨E, 0, none⟩) (.inl (.inr (.inl rfl))) _).setCell (p := ⟨E + 1, 0, none⟩) (.inl (.inr (.inr rfl))) _) (fun j hj => by
      rcases hj with rfl | rfl | rfl
      · obtain ⟨cur, hc⟩ := r2.typed (k := j) rfl
        exact ⟨_, _, _, hc⟩
      · exact ⟨_, _, _, b1⟩
      · exact ⟨_, _, _, hA.bn⟩)
    have HKP := Lib.hid HKE
    rw [hdl] at *
    have hLs : size ≤ b.length - t * size := by have := hk.1; omega
    have ew1 : IntKind.i64.wrap ((t : Int) + 1) = (t : Int) + 1 := wrap_fit _ (by
      have h3 : k * 1 ≤ k * size := Nat.mul_le_mul_left _ hn.2.2.1
      unfold fit; omega)
    have ec : ((t + 1 : Nat) : Int) = (t : Int) + 1 := by omega
    rw [ec] at HNX HKP
    generalize hL : b.length - t * size = L at *
    generalize X.drew.setCells g A (bcells ((b.drop (t * size)).take size)) = W3 at *
    unfold atP
    rw [hA']
    have HL := Lib.hid (And.intro hL (And.intro hk.1 htk))
    have HSN := Lib.hid (And.intro hsn (And.intro hlt hiN))
    clear ec hn hk htk hdl hpl hrz tW hr3 hr4 ho4 hnx HKE b1 b2 b3 b4 r1 r2 r3 hA hA' hL ht hsn hlt hle hiN b5 x1
    gi_wp2
    refine round_held (S := fun _ => True) (by kernel_rfl) (by kernel_rfl) (fun ⟨a, w, h⟩ => h) trivial (fun _ => ?_)
    refine wpAnyH_take (i := 1) (oi := ?oi1) (v := ?v1) ?hi1 (by kernel_rfl) (by kernel_rfl) (by kernel_rfl) ?hq1 (Or.inl ⟨?hw1, ?hy1⟩) trivial ?rest1
    case hi1 => rfl
    case hq1 => exact fun c a w h => h
    case hw1 => rfl
    case hy1 => (intro w hSw; go_simp; (try (with_reducible rfl)))
    (try simp only [Act.put, List.setIfInBounds_toArray, List.set_cons_zero, List.set_cons_succ])
    refine wpAnyH_ready (rs := [0, 2]) (by kernel_rfl) (by simp) ?_
    refine AllReadyH.cons rfl (fun K' hK' => ?_) ?_
    · go_simp
      refine hK' _ _ trivial (fun _ => ?_)
      clear hK' K'
      (try simp only [Act.put, List.setIfInBounds_toArray, List.set_cons_zero, List.set_cons_succ])
      refine wpAnyH_ready (rs := [2]) (by kernel_rfl) (by simp) ?_
      refine AllReadyH.cons rfl (fun K' hK' => ?_) AllReadyH.nil
      go_simp
      refine hK' _ _ trivial (fun _ => ?_)
      clear hK' K'
      (try simp only [Act.put, List.setIfInBounds_toArray, List.set_cons_zero, List.set_cons_succ])
      refine wpAnyH_ready (rs := [3]) (by kernel_rfl) (by simp) ?_
      refine AllReadyH.cons rfl (fun K' hK' => ?_) AllReadyH.nil
      go_simp
      refine hK' _ _ trivial (fun _ => ?_)
      clear hK' K'
      (try simp only [Act.put, List.setIfInBounds_toArray, List.set_cons_zero, List.set_cons_succ])
      refine wpAnyH_ready (rs := [4]) (by kernel_rfl) (by simp) ?_
      refine AllReadyH.cons rfl (fun K' hK' => ?_) AllReadyH.nil
      go_simp
      refine hK' _ _ trivial (fun _ => ?_)
      clear hK' K'
      (try simp only [Act.put, List.setIfInBounds_toArray, List.set_cons_zero, List.set_cons_succ])
      refine wpAnyH_ready (rs := [5]) (by kernel_rfl) (by simp) ?_
      refine AllReadyH.cons rfl (fun K' hK' => ?_) AllReadyH.nil
      go_simp
      refine hK' _ _ trivial (fun _ => ?_)
      clear hK' K'
      (try simp only [Act.put, List.setIfInBounds_toArray, List.set_cons_zero, List.set_cons_succ])
      refine wpAnyH_done (by kernel_rfl) ?_ _
      by_cases hz : L - size = 0
      · have hz' : ((L - size : Nat) : Int) = 0 := by omega
        rw [hz] at HNX HKP
        gi_wp2
        exact ⟨HKP.out, rfl, by rw [HSN.out.1]; exact HNX.out, by rw [HSN.out.1]; exact last_k HL.out.2.1 HL.out.1 hz HN.out.2.2.1 HSN.out.2.1, by rw [HSN.out.1]; exact HSN.out.2.2⟩
      · have hz' : ((L - size : Nat) : Int) ≠ 0 := by omega
        have hz2 : (((L - size : Nat) : Int) == 0) = false := by simpa using hz'
        gi_wp2
        exact ⟨HKP.out, by rw [HSN.out.1]; exact HNX.out, by rw [HSN.out.1]; exact more_k HL.out.2.1 HL.out.1 hz HN.out.2.2.1 HSN.out.2.1, by rw [HSN.out.1]; exact HSN.out.2.2⟩
    refine AllReadyH.cons rfl (fun K' hK' => ?_) AllReadyH.nil
    go_simp
    refine hK' _ _ trivial (fun _ => ?_)
    clear hK' K'
    (try simp only [Act.put, List.setIfInBounds_toArray, List.set_cons_zero, List.set_cons_succ])
    refine wpAnyH_ready (rs := [0, 3]) (by kernel_rfl) (by simp) ?_
    refine AllReadyH.cons rfl (fun K' hK' => ?_) ?_
    · go_simp
      refine hK' _ _ trivial (fun _ => ?_)
      clear hK' K'
      (try simp only [Act.put, List.setIfInBounds_toArray, List.set_cons_zero, List.set_cons_succ])
      refine wpAnyH_ready (rs := [3]) (by kernel_rfl) (by simp) ?_
      refine AllReadyH.cons rfl (fun K' hK' => ?_) AllReadyH.nil
      go_simp
      refine hK' _ _ trivial (fun _ => ?_)
      clear hK' K'
      (try simp only [Act.put, List.setIfInBounds_toArray, List.set_cons_zero, List.set_cons_succ])
      refine wpAnyH_ready (rs := [4]) (by kernel_rfl) (by simp) ?_
      refine AllReadyH.cons rfl (fun K' hK' => ?_) AllReadyH.nil
      go_simp
      refine hK' _ _ trivial (fun _ => ?_)
      clear hK' K'
      (try simp only [Act.put, List.setIfInBounds_toArray, List.set_cons_zero, List.set_cons_succ])
      refine wpAnyH_ready (rs := [5]) (by kernel_rfl) (by simp) ?_
      refine AllReadyH.cons rfl (fun K' hK' => ?_) AllReadyH.nil
      go_simp
      refine hK' _ _ trivial (fun _ => ?_)
      clear hK' K'
      (try simp only [Act.put, List.setIfInBounds_toArray, List.set_cons_zero, List.set_cons_succ])
      refine wpAnyH_done (by kernel_rfl) ?_ _
      by_cases hz : L - size = 0
      · have hz' : ((L - size : Nat) : Int) = 0 := by omega
        rw [hz] at HNX HKP
        gi_wp2
        exact ⟨HKP.out, rfl, by rw [HSN.out.1]; exact HNX.out, by rw [HSN.out.1]; exact last_k HL.out.2.1 HL.out.1 hz HN.out.2.2.1 HSN.out.2.1, by rw [HSN.out.1]; exact HSN.out.2.2⟩
      · have hz' : ((L - size : Nat) : Int) ≠ 0 := by omega
        have hz2 : (((L - size : Nat) : Int) == 0) = false := by simpa using hz'
        gi_wp2
        exact ⟨HKP.out, by rw [HSN.out.1]; exact HNX.out, by rw [HSN.out.1]; exact more_k HL.out.2.1 HL.out.1 hz HN.out.2.2.1 HSN.out.2.1, by rw [HSN.out.1]; exact HSN.out.2.2⟩
    refine AllReadyH.cons rfl (fun K' hK' => ?_) AllReadyH.nil
    go_simp
    refine hK' _ _ trivial (fun _ => ?_)
    clear hK' K'
    (try simp only [Act.put, List.setIfInBounds_toArray, List.set_cons_zero, List.set_cons_succ])
    refine wpAnyH_ready (rs := [0]) (by kernel_rfl) (by simp) ?_
    refine AllReadyH.cons rfl (fun K' hK' => ?_) AllReadyH.nil
    go_simp
    refine hK' _ _ trivial (fun _ => ?_)
    clear hK' K'
    (try simp only [Act.put, List.setIfInBounds_toArray, List.set_cons_zero, List.set_cons_succ])
    refine wpAnyH_ready (rs := [4]) (by kernel_rfl) (by simp) ?_
    refine AllReadyH.cons rfl (fun K' hK' => ?_) AllReadyH.nil
    go_simp
    refine hK' _ _ trivial (fun _ => ?_)
    clear hK' K'
    (try simp only [Act.put, List.setIfInBounds_toArray, List.set_cons_zero, List.set_cons_succ])
    refine wpAnyH_ready (rs := [5]) (by kernel_rfl) (by simp) ?_
    refine AllReadyH.cons rfl (fun K' hK' => ?_) AllReadyH.nil
    go_simp
    refine hK' _ _ trivial (fun _ => ?_)
    clear hK' K'
    (try simp only [Act.put, List.setIfInBounds_toArray, List.set_cons_zero, List.set_cons_succ])
    refine wpAnyH_done (by kernel_rfl) ?_ _
    by_cases hz : L - size = 0
    · have hz' : ((L - size : Nat) : Int) = 0 := by omega
      rw [hz] at HNX HKP
      gi_wp2
      exact ⟨HKP.out, rfl, by rw [HSN.out.1]; exact HNX.out, by rw [HSN.out.1]; exact last_k HL.out.2.1 HL.out.1 hz HN.out.2.2.1 HSN.out.2.1, by rw [HSN.out.1]; exact HSN.out.2.2⟩
    · have hz' : ((L - size : Nat) : Int) ≠ 0 := by omega
      have hz2 : (((L - size : Nat) : Int) == 0) = false := by simpa using hz'
      gi_wp2
      exact ⟨HKP.out, by rw [HSN.out.1]; exact HNX.out, by rw [HSN.out.1]; exact more_k HL.out.2.1 HL.out.1 hz HN.out.2.2.1 HSN.out.2.1, by rw [HSN.out.1]; exact HSN.out.2.2⟩
  case done =>
    rintro D xs X hD hxl ⟨hA, hlt, hle⟩ hK
    rw [hxl] at hA hlt hle
    have hmin : min k N = N := by omega
    have hf := hA.fin H.out.1 H.out.2.1 H.out.2.2 HN.out.1 HN.out.2.2.1 HK.out.1
    have hkk : k * 1 ≤ k * size := Nat.mul_le_mul_left _ HN.out.2.2.1
    have hkb := HK.out
    have e4 : X.drew.cell? ⟨c, r + 4, none⟩ = some (.int .i64 (n : Int)) := by
      have h5 := H.out.1.c5
      rw [HN.out.1, Nat.mul_div_cancel _ (show 0 < size by have := HN.out; omega)] at h5
      exact hA.turn.cell h5 H.out.2.2
    have hcX : c < X.heap.size := Nat.lt_of_lt_of_le hcl hA.turn.size
    have e6 : X.drew.frozen? ⟨c, r + 4, none⟩ = false := ((H.out.2.1.kept hA.turn H.out.2.2).kept (Turn.refl NoBlock X).drew (fun h => h)).free _
    have e7 : X.drew.cell? ⟨E + 1, 0, none⟩ = some (.int .i64 (N : Int)) := hA.bn.cell
    have e8 : E + 1 ≠ c := by omega
    have e9 : (X.setCell ⟨c, r + 4, none⟩ (.int .i64 ((n : Int) + (N : Int)))).cell? ⟨E + 1, 0, none⟩ = some (.int .i64 (N : Int)) := Boxed.cell (set_past hA.bn (p := ⟨c, r + 4, none⟩) (by show E + 1 ≠ c; omega) _)
    have ew2 : IntKind.i64.wrap ((n : Int) + (N : Int)) = (n : Int) + (N : Int) := wrap_fit _ (by have := HN.out; unfold fit; omega)
    have HF := Lib.hid hf
    have HKK := Lib.hid hK
    have HM := Lib.hid hmin
    have HD := Lib.hid hD
    have HX := Lib.hid hA.turn.size
    clear hf hK hmin hkk hkb hA hlt hle hD
    gi_wp2
    gi_region
    all_goals
      gi_wp2
      have hDD := HD.out
      have hdl : X.heap[D]? = some (.deferred (some [])) := HKK.out
      have hdd : (X.setCell ⟨c, r + 4, none⟩ (.int .i64 ((n : Int) + (N : Int)))).drew.heap[D]? = some (.deferred (some [])) := set_past hdl (p := ⟨c, r + 4, none⟩) (by show D ≠ c; omega) _
      refine ⟨by simp, .inl ⟨_, _, rfl, run_takeDeferred hdd, ?_⟩⟩
      have tp := turn_putObj ((X.setCell ⟨c, r + 4, none⟩ (.int .i64 ((n : Int) + (N : Int)))).drew) D (.deferred none)
      refine ⟨_, results_tmp rfl _ _ _, by rw [hN, HM.out]; rfl, ?_⟩
      rw [hN, HM.out]
      exact HF.out _ (((Turn.refl (fun k => k = D) _).drew).trans tp (fun k hk => .inl hk)) (fun k hk => by omega)
  case stop =>
    rintro D cc pre X hD - ⟨rfl, hA, hlt, hle⟩ hK
    rw [hlt] at hA hle
    clear hlt
    have hlt : True := trivial
    have hmin : min k N = k := by omega
    have hf := hA.fin H.out.1 H.out.2.1 H.out.2.2 HN.out.1 HN.out.2.2.1 HK.out.1
    have hkk : k * 1 ≤ k * size := Nat.mul_le_mul_left _ HN.out.2.2.1
    have hkb := HK.out
    have e4 : X.drew.cell? ⟨c, r + 4, none⟩ = some (.int .i64 (n : Int)) := by
      have h5 := H.out.1.c5
      rw [HN.out.1, Nat.mul_div_cancel _ (show 0 < size by have := HN.out; omega)] at h5
      exact hA.turn.cell h5 H.out.2.2
    have hcX : c < X.heap.size := Nat.lt_of_lt_of_le hcl hA.turn.size
    have e6 : X.drew.frozen? ⟨c, r + 4, none⟩ = false := ((H.out.2.1.kept hA.turn H.out.2.2).kept (Turn.refl NoBlock X).drew (fun h => h)).free _
    have e7 : X.drew.cell? ⟨E + 1, 0, none⟩ = some (.int .i64 (k : Int)) := hA.bn.cell
    have e8 : E + 1 ≠ c := by omega
    have e9 : (X.setCell ⟨c, r + 4, none⟩ (.int .i64 ((n : Int) + (k : Int)))).cell? ⟨E + 1, 0, none⟩ = some (.int .i64 (k : Int)) := Boxed.cell (set_past hA.bn (p := ⟨c, r + 4, none⟩) (by show E + 1 ≠ c; omega) _)
    have ew2 : IntKind.i64.wrap ((n : Int) + (k : Int)) = (n : Int) + (k : Int) := wrap_fit _ (by have := HN.out; unfold fit; omega)
    have HF := Lib.hid hf
    have HKK := Lib.hid hK
    have HM := Lib.hid hmin
    have HD := Lib.hid hD
    have HX := Lib.hid hA.turn.size
    clear hf hK hmin hkk hkb hA hlt hle hD
    gi_wp2
    gi_region
    all_goals
      gi_wp2
      have hDD := HD.out
      have hdl : X.heap[D]? = some (.deferred (some [])) := HKK.out
      have hdd : (X.setCell ⟨c, r + 4, none⟩ (.int .i64 ((n : Int) + (k : Int)))).drew.heap[D]? = some (.deferred (some [])) := set_past hdl (p := ⟨c, r + 4, none⟩) (by show D ≠ c; omega) _
      refine ⟨by simp, .inl ⟨_, _, rfl, run_takeDeferred hdd, ?_⟩⟩
      have tp := turn_putObj ((X.setCell ⟨c, r + 4, none⟩ (.int .i64 ((n : Int) + (k : Int)))).drew) D (.deferred none)
      refine ⟨_, results_tmp rfl _ _ _, by rw [hN, HM.out]; rfl, ?_⟩
      rw [hN, HM.out]
      exact HF.out _ (((Turn.refl (fun k => k = D) _).drew).trans tp (fun k hk => .inl hk)) (fun k hk => by omega)
end Go.Proofs.Ytocaebcbmfejbaa
