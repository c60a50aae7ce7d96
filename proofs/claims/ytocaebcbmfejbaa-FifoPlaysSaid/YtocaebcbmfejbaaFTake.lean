/-
  What take of a ring tells, and what it makes of it. No conditions but that the ring is in memory, and that elements wait there.
-/
import Derived.Test.YtocaebcbmfejbaaFAdd2
namespace Go.Proofs.Ytocaebcbmfejbaa
open Go.ChangeShapes Go.WideShapes Go.ChangeAt Go.RowKit Go.Shelf

attribute [local go_sem] Oper.semAt_some

/-- Some of a row's bytes can be read. -/
theorem rzb_part {w : World} {g m A size : Nat} {bs : List UInt8} (h : Byts (.slice (some ⟨g, 0, none⟩) m m) bs w) (ha : A + size ≤ bs.length) : RzB w (.slice (some ⟨g, A, none⟩) size size) ((bs.drop A).take size) := by
  have hl : ((bs.drop A).take size).length = size := by rw [List.length_take, List.length_drop]; omega
  have hj : ∀ j, j < bs.length * 1 → w.cell? ⟨g, 0 + j, none⟩ = (bcells bs)[j]? := by
    rcases h.form with ⟨h1, _⟩ | ⟨g', o, cap, h1, _, _, _, h5, _⟩
    · cases h1
    · simp only [Value.slice.injEq, Option.some.injEq, Addr.mk.injEq, and_true] at h1
      obtain ⟨⟨rfl, rfl⟩, _, _⟩ := h1
      exact h5
  refine RdB.rz ⟨by rw [bcells_len, Nat.mul_one], some ⟨g, A, none⟩, size, by rw [hl], (fun h => by cases h), fun a ha' => ?_⟩
  cases ha'
  refine ⟨g, A, rfl, fun j hjn => ?_⟩
  rw [hl] at hjn
  have := hj (A + j) (by omega)
  rw [Nat.zero_add] at this
  rw [this]
  unfold bcells
  rw [List.getElem?_map, List.getElem?_map, List.getElem?_take_of_lt (by omega), List.getElem?_drop]
theorem told_next {d : List UInt8} {k t size : Nat} (hd : k * size ≤ d.length) (ht : t < k) :
    overB (d.take (t * size) ++ List.replicate (k * size - t * size) 0) (t * size) ((d.drop (t * size)).take size) = d.take ((t + 1) * size) ++ List.replicate (k * size - (t + 1) * size) 0 := by
  have htk : (t + 1) * size ≤ k * size := Nat.mul_le_mul_right _ ht
  rw [Nat.add_mul, Nat.one_mul] at htk
  have hl : (d.take (t * size)).length = t * size := by rw [List.length_take]; omega
  have he : ((d.drop (t * size)).take size).length = size := by rw [List.length_take, List.length_drop]; omega
  unfold overB
  rw [he, Nat.add_mul, Nat.one_mul, List.take_add, List.take_append_of_le_length (by omega), List.take_of_length_le (by omega)]
  congr 1
  rw [List.drop_append, List.drop_eq_nil_of_le (by omega), List.nil_append, hl, List.drop_replicate]
  congr 1
  omega
theorem blk_lt {T E n c j : Nat} (h : Blk (.slice (some ⟨T, 0, none⟩) n c) j) (hT : T < E) : j < E + 4 := by
  have : T = j := by simpa [Blk, Value.ownBlock] using h
  omega
theorem psees_new0 {w W1 : World} {c r count size g f S : Nat} (h : FHd w c r count size g f) (t : Turn NoBlock w W1) (hs : W1.heap.size = S) {n : Nat} : PSees (S + 2) S (S + 1) c r count size g f 0 n (((W1.alloc (.cells #[.pointer (some ⟨c, r, none⟩)] 139)).alloc (.cells #[.int .i64 0] 3)).alloc (.cells #[.int .i64 (n : Int)] 3)) := by
  have b0 := Boxed.new W1 139 (.pointer (some ⟨c, r, none⟩))
  have b1 := Boxed.new (W1.alloc (.cells #[.pointer (some ⟨c, r, none⟩)] 139)) 3 (.int .i64 0)
  have b2 := Boxed.new ((W1.alloc (.cells #[.pointer (some ⟨c, r, none⟩)] 139)).alloc (.cells #[.int .i64 0] 3)) 3 (.int .i64 (n : Int))
  simp only [World.size_alloc, hs] at b0 b1 b2
  exact ⟨b2, (b0.alloc _).alloc _, b1.alloc _, h.past (TT t ((((Turn.refl NoBlock W1).alloc _).alloc _).alloc _))⟩
/-- What holds ahead of take's t-th round: the elements that came already are told. -/
structure TInv (w : World) (T E B c r count size g f m k t : Nat) (d : List UInt8) (X : World) : Prop where
  see : PSees (E + 1 + 2) (E + 1) (E + 1 + 1) c r count size g f 0 m X
  bl : ∃ v, Boxed X E 35 v ∧ (t < k → v = .slice (some ⟨T, t * size, none⟩) (B - t * size) (B - t * size))
  told : Byts (.slice (some ⟨T, 0, none⟩) B B) (d.take (t * size) ++ List.replicate (B - t * size) 0) X
  turn : Turn NoBlock w X
  le : t ≤ k
section
variable {w X Y : World} {T E B c r count size g f m k t : Nat} {d : List UInt8}
theorem TInv.kept {F : Nat → Prop} (h : TInv w T E B c r count size g f m k t d X) (hc : c < E) (hT : T < E) (hw : w.heap.size ≤ E) (tn : Turn F X Y) (hF : ∀ k, F k → E + 4 ≤ k) : TInv w T E B c r count size g f m k t d Y := by
  have lo : ∀ k, k < E + 4 → ¬ F k := fun k hk hf => by have := hF k hf; omega
  obtain ⟨v, b1, b2⟩ := h.bl
  refine ⟨h.see.kept tn (fun j hj => lo j (by omega)), ⟨v, Boxed.kept' b1 tn (lo _ (by omega)), b2⟩, h.told.kept tn (fun j hj => lo j (blk_lt hj hT)), h.turn.trans tn (fun j hj => .inr (by have := hF j hj; omega)), h.le⟩
theorem tinv_own {A : Type} (U : A → Nat) {B1 : Nat} (hc : c < E) (hT : T < E) (hw : w.heap.size ≤ E) (hB : E + 4 ≤ B1) : OwnFrom B1 (fun (s : A) X => TInv w T E B c r count size g f m k (U s) d X) :=
  fun s X Y row hs hgr hr => hs.kept hc hT hw (turn_of_grown hgr) (fun j hj => by have := (hr j hj).1; omega)
theorem TInv.next (hB : k * size = B) (h : TInv w T E B c r count size g f m k t d X) (hc : c < w.heap.size) (hT : T < E) (hTw : w.heap.size ≤ T) (hd : k * size ≤ d.length) (ht : t < k) {p : Option Addr}
    (hp : t + 1 < k → p = some ⟨T, (t + 1) * size, none⟩) :
    TInv w T E B c r count size g f m k (t + 1) d ((X.drew.setCells T (t * size) (bcells ((d.drop (t * size)).take size))).setCell ⟨E, 0, none⟩ (.slice p (B - t * size - size) (B - t * size - size))) := by
  subst hB
  obtain ⟨v, b1, b2⟩ := h.bl
  have htk : (t + 1) * size ≤ k * size := Nat.mul_le_mul_right _ ht
  rw [Nat.add_mul, Nat.one_mul] at htk
  have hel : ((d.drop (t * size)).take size).length = size := by rw [List.length_take, List.length_drop]; omega
  have hl : (d.take (t * size) ++ List.replicate (k * size - t * size) (0 : UInt8)).length = k * size := by rw [List.length_append, List.length_take, List.length_replicate]; omega
  have hr := h.told.past (Turn.refl NoBlock X).drew
  obtain ⟨s1, s2⟩ := byts_sets (w := X.drew) (a := t * size) (e := (d.drop (t * size)).take size) hr (by rw [hl, hel]; omega)
  rw [told_next hd ht] at s1
  generalize X.drew.setCells T (t * size) (bcells ((d.drop (t * size)).take size)) = W3 at *
  have t3 : Turn (fun k => k = T) X W3 := ((Turn.refl _ X).drew).trans s2 (fun _ h => .inl h)
  have x0 : Boxed W3 E 35 v := Boxed.kept' b1 t3 (by omega)
  have t4 : Turn (fun k => k = E) W3 (W3.setCell ⟨E, 0, none⟩ (.slice p (k * size - t * size - size) (k * size - t * size - size))) := (Turn.refl (fun k => k = E) W3).setCell (p := ⟨E, 0, none⟩) (.inl rfl) _
  have y0 : Boxed (W3.setCell ⟨E, 0, none⟩ (.slice p (k * size - t * size - size) (k * size - t * size - size))) E 35 (.slice p (k * size - t * size - size) (k * size - t * size - size)) := set_at x0 0 _
  refine ⟨(h.see.kept t3 (fun j hj => by omega)).kept t4 (fun j hj => by omega), ⟨_, y0, fun hlt => by rw [hp hlt]; congr 1 <;> (rw [Nat.add_mul, Nat.one_mul]; omega)⟩, s1.kept t4 (fun j hj => ?_), (h.turn.trans t3 (fun _ h => .inr (by omega))).trans t4 (fun j hj => .inr (by omega)), ht⟩
  have : T = j := by simpa [Blk, Value.ownBlock] using hj
  omega
theorem TInv.fin {bs0 : List UInt8} (h : TInv w T E B c r count size g f m k k d X) (h0 : FIn w c r count size d g f bs0) (hty : TBlk w c 136) (hcg : c ≠ g) (hB : k * size = B) (hd : d.length = m * size) (h1 : 1 ≤ size) (hkm : k ≤ m) (hcE : c < E) (hT : w.heap.size = T) (hTE : T < E) (nf : Nat) (hnf : (f + k) % count = nf)
    (m8 : Nat) (Z : World) {F : Nat → Prop} (ho : Turn F (((X.drewN m8).setCell ⟨c, r + 3, none⟩ (.int .i64 (nf : Int))).setCell ⟨c, r + 4, none⟩ (.int .i64 ((m : Int) - (k : Int)))) Z) (hF : ∀ k, F k → E ≤ k) :
    Byts (.slice (some ⟨T, 0, none⟩) B B) (d.take (k * size)) Z ∧ (∃ f' bs', FIn Z c r count size (d.drop (k * size)) g f' bs') ∧ Turn (fun k => k = c) w Z ∧ (∀ j, j ≠ r + 3 → j ≠ r + 4 → Z.cell? ⟨c, j, none⟩ = w.cell? ⟨c, j, none⟩) ∧ TBlk Z c 136 := by
  have hgl : g < w.heap.size := (h0.row.typed (k := g) rfl).lt
  have t1 := h.turn
  have t2 : Turn (fun k => k = c) X (((X.drewN m8).setCell ⟨c, r + 3, none⟩ (.int .i64 (nf : Int))).setCell ⟨c, r + 4, none⟩ (.int .i64 ((m : Int) - (k : Int)))) := (((Turn.refl (fun k => k = c) X).drewN m8).setCell (p := ⟨c, r + 3, none⟩) (.inl rfl) _).setCell (p := ⟨c, r + 4, none⟩) (.inl rfl) _
  have hcF : ¬ F c := fun hf => by have := hF c hf; omega
  have hgF : ¬ F g := fun hf => by have := hF g hf; omega
  have hce : ∀ j, X.cell? ⟨c, j, none⟩ = w.cell? ⟨c, j, none⟩ := fun j => World.cell?_of_block (a := ⟨c, j, none⟩) (t1.block c hty.lt (fun h => h))
  have hty2 : TBlk (((X.drewN m8).setCell ⟨c, r + 3, none⟩ (.int .i64 (nf : Int))).setCell ⟨c, r + 4, none⟩ (.int .i64 ((m : Int) - (k : Int)))) c 136 := TBlk.set (TBlk.set ((hty.kept t1 (fun h => h)).kept ((Turn.refl NoBlock X).drewN m8) (fun h => h)) _ _ _) _ _ _
  have hz : ∀ j, Z.cell? ⟨c, j, none⟩ = (((X.drewN m8).setCell ⟨c, r + 3, none⟩ (.int .i64 (nf : Int))).setCell ⟨c, r + 4, none⟩ (.int .i64 ((m : Int) - (k : Int)))).cell? ⟨c, j, none⟩ := fun j => World.cell?_of_block (a := ⟨c, j, none⟩) (ho.block c hty2.lt hcF)
  have hdr : ∀ j, (X.drewN m8).cell? ⟨c, j, none⟩ = X.cell? ⟨c, j, none⟩ := fun j => rfl
  have hj : ∀ j, j ≠ r + 3 → j ≠ r + 4 → Z.cell? ⟨c, j, none⟩ = w.cell? ⟨c, j, none⟩ := fun j h3 h4 => by rw [hz, cell_set_other (by omega), cell_set_other (by omega), hdr]; exact hce j
  have hlen : ((d.drop (k * size)).length / size : Nat) = m - k := by rw [List.length_drop, hd, ← Nat.sub_mul, Nat.mul_div_cancel _ (by omega)]
  have hbg : ∀ a n k, Blk (.slice (some ⟨a, 0, none⟩) n n) k → a = k := fun a n k hk => by simpa [Blk, Value.ownBlock] using hk
  have hto := h.told
  rw [hB, Nat.sub_self, List.replicate_zero, List.append_nil] at hto
  rw [hB]
  refine ⟨(hto.kept t2 (fun k hk e => ?_)).kept ho (fun k hk e => ?_), ⟨nf, bs0, ⟨(hj _ (by omega) (by omega)).trans h0.hd.c1, (hj _ (by omega) (by omega)).trans h0.hd.c2, (hj _ (by omega) (by omega)).trans h0.hd.c3, ?_, ?_⟩, ?_, h0.len, ((h0.row.past t1).kept t2 (fun k hk e => ?_)).kept ho (fun k hk e => ?_), ?_⟩, ((TU t1 : Turn (fun k => k = c) w X).trans t2 (fun k hk => .inl hk)).trans ho (fun k hk => .inr (by have := hF k hk; omega)), hj, hty2.kept ho hcF⟩
  · have := hbg _ _ _ hk; have := hty.lt; omega
  · have := hbg _ _ _ hk; have := hF _ e; omega
  · rw [hz, cell_set_other (by omega)]
    exact World.cell?_setCell_same' _ _ _ (by rw [hdr, hce, h0.hd.c4]; rfl)
  · rw [← hnf]; exact Nat.mod_lt _ (by have := h0.hd.lt; omega)
  · rw [← hB, hlen, hz]
    rw [show (((m - k : Nat) : Int)) = (m : Int) - k by omega]
    exact World.cell?_setCell_same' _ _ _ (by rw [cell_set_other (by omega), hdr, hce, h0.c5]; rfl)
  · have := hbg _ _ _ hk; exact hcg (e.symm.trans this.symm)
  · have := hbg _ _ _ hk; have := hF _ e; omega
  · rw [← hnf, ← hB]; exact h0.ring.drop h1 h0.len
end

set_option linter.unusedSimpArgs false in
set_option linter.unusedVariables false in
set_option maxRecDepth 100000 in
set_option maxHeartbeats 4000000 in
theorem ftake {w : World} {c r count size g f : Nat} {d bs : List UInt8} (h : FIn w c r count size d g f bs) (hty : TBlk w c 136) (hcg : c ≠ g) (m : Nat) (hd : d.length = m * size) (hm0 : 0 < m) (hm : m ≤ count) (h1 : 1 ≤ size) (h2 : size ≤ 64) (h3 : count ≤ 1024) (h4 : count * size ≤ 4096)
    (n : Int) (hn : 1 ≤ n) (k : Nat) (hk : (k : Int) = if (m : Int) < n then (m : Int) else n) :
    Calls Try.prog 86 #[.pointer (some ⟨c, r, none⟩), .int .i64 n] w fun e w' => (∃ v, e = .returned v ∧ Byts v (d.take (k * size)) w' ∧ ∀ j, Blk v j → w.heap.size ≤ j) ∧ (∃ f' bs', FIn w' c r count size (d.drop (k * size)) g f' bs') ∧ Turn (fun k => k = c) w w' ∧ (∀ j, j ≠ r + 3 → j ≠ r + 4 → w'.cell? ⟨c, j, none⟩ = w.cell? ⟨c, j, none⟩) ∧ TBlk w' c 136 := by
  have hk1 : 1 ≤ k := by split at hk <;> omega
  have hkm : k ≤ m := by split at hk <;> omega
  have hms : m * size ≤ count * size := Nat.mul_le_mul_right _ hm
  have hks : k * size ≤ m * size := Nat.mul_le_mul_right _ hkm
  have e5 := h.c5
  have e2 := h.hd.c2
  have hcl := hty.lt
  have hgl := (h.row.typed (k := g) rfl).lt
  rw [hd, Nat.mul_div_cancel _ (show 0 < size by omega)] at e5
  obtain ⟨B, hB⟩ : ∃ B, k * size = B := ⟨_, rfl⟩
  have ew : IntKind.i64.wrap ((k : Int) * (size : Int)) = (B : Int) := by rw [← Int.natCast_mul, hB]; exact wrap_nat _ (by omega)
  obtain ⟨i5, hi5, hz5, hs5, hb5⟩ := info_parts infoB
  obtain ⟨W1, hm1, ho1, hg1⟩ := run_make_full (P := Try.prog) w 0 35 5 i5 _ 1 bytesT hi5 hz5 hs5 .i64 .i64 B (by rw [hb5]; omega) (by unfold maxLen; omega) (Nat.zero_le _)
  have t1 := turn_grown hg1
  have hto := made_bytes ho1
  have htl := (hto.typed (k := w.heap.size) rfl).lt
  obtain ⟨T, hT⟩ : ∃ T, w.heap.size = T := ⟨_, rfl⟩
  rw [hT] at hm1 hto htl
  obtain ⟨E, hE⟩ : ∃ E, W1.heap.size = E := ⟨_, rfl⟩
  have CP := Lib.hid (fun W => fplaces W ⟨c, r, none⟩ 0 (m : Int))
  have HT := Lib.hid hto
  have H := Lib.hid (And.intro h (And.intro hty hcg))
  have HN := Lib.hid (And.intro hd (And.intro hm0 (And.intro hm (And.intro h1 (And.intro h2 (And.intro h3 h4))))))
  have HK := Lib.hid (And.intro hk1 (And.intro hkm (And.intro hB hks)))
  have u5 := t1.cell e5 (fun h => h)
  have u2 := t1.cell e2 (fun h => h)
  have hcE : c < E := by rw [← hE]; exact Nat.lt_of_lt_of_le hcl t1.size
  have hTE : T < E := by rw [← hE]; exact htl
  have u6 := ((Turn.refl NoBlock W1).alloc (.cells #[.slice (some ⟨T, 0, none⟩) B B] 35)).cell u5 (fun h => h)
  have hmin : ∀ (ts : Array TypeId) (t : TypeId) (w : World), (Builtin.min_ ts t #[.int .i64 n, .int .i64 m]).run Try.prog w = .ok (.int .i64 (k : Int)) w := fun ts t w => by rw [run_min_int2, hk]
  clear hto h hty hcg hd hm0 hm h1 h2 h3 h4 hk hk1 hkm hB hms hks ho1 hg1 hi5 hz5 hs5 hb5
  refine (callsIn_wide (n := 6)).1 ?_
  refine callsIn_of_wp_marks (F := Fence.wide) Try.func86 rfl trivial ?_ rfl
  simp only [Try.ntmps86, List.size_toArray, List.length_cons, List.length_nil, Nat.reduceAdd, Nat.reduceSub, Array.replicate_succ, Array.replicate_zero, List.push_toArray, List.append_toArray, List.nil_append, List.cons_append]
  gi_wp2_with (refine ⟨trivial, ?_⟩; gi_at_call 98; refine (callsIn_wide.2 (CP.out _)).mono ?_; rintro e w' ⟨rfl, rfl⟩)
  have t2 : Turn NoBlock W1 ((((W1.alloc (.cells #[.slice (some ⟨T, 0, none⟩) B B] 35)).alloc (.cells #[.pointer (some ⟨c, r, none⟩)] 139)).alloc (.cells #[.int .i64 0] 3)).alloc (.cells #[.int .i64 (m : Int)] 3)) := ((((Turn.refl _ W1).alloc _).alloc _).alloc _).alloc _
  have hsee := psees_new0 H.out.1.hd (TT t1 ((Turn.refl NoBlock W1).alloc (.cells #[.slice (some ⟨T, 0, none⟩) B B] 35))) (by rw [World.size_alloc, hE]) (n := m)
  have bx0 := (((Boxed.new W1 35 (.slice (some ⟨T, 0, none⟩) B B)).alloc (.cells #[.pointer (some ⟨c, r, none⟩)] 139)).alloc (.cells #[.int .i64 0] 3)).alloc (.cells #[.int .i64 (m : Int)] 3)
  rw [hE] at bx0
  have hs2 : ((((W1.alloc (.cells #[.slice (some ⟨T, 0, none⟩) B B] 35)).alloc (.cells #[.pointer (some ⟨c, r, none⟩)] 139)).alloc (.cells #[.int .i64 0] 3)).alloc (.cells #[.int .i64 (m : Int)] 3)).heap.size = E + 4 := by simp only [World.size_alloc]; omega
  generalize ((((W1.alloc (.cells #[.slice (some ⟨T, 0, none⟩) B B] 35)).alloc (.cells #[.pointer (some ⟨c, r, none⟩)] 139)).alloc (.cells #[.int .i64 0] 3)).alloc (.cells #[.int .i64 (m : Int)] 3)) = W2 at *
  have hA0 : TInv w T E B c r count size g f m k 0 d W2 := by
    have hB := HK.out.2.2.1
    refine ⟨hsee, ⟨_, bx0, fun _ => by simp⟩, by simpa using HT.out.past t2, TT t1 t2, Nat.zero_le _⟩
  have hTw : w.heap.size ≤ E := by omega
  clear hsee t2 bx0 e5 e2 ew u5 u2 u6 hmin
  refine range2 (gf := 103) (lb := #[.pointer (some ⟨E + 1 + 2, 0, none⟩), .pointer (some ⟨E + 1, 0, none⟩), .pointer (some ⟨E + 1 + 1, 0, none⟩)]) rfl (enters_of Try.func103 (by kernel_rfl) rfl)
    (places_gives (E + 1 + 2) (E + 1) (E + 1 + 1) c r count size g f 0 m HN.out.2.2.2.2.2.1 HN.out.2.2.2.1 HN.out.2.2.2.2.1 HN.out.2.2.2.2.2.2 (by have := HN.out; omega)) (fun _ => rfl)
    (fun pre X => TInv w T E B c r count size g f m k pre.length d X ∧ pre.length < k)
    (fun cc pre X => cc = .exit 0 ∧ TInv w T E B c r count size g f m k pre.length d X ∧ pre.length = k) ?hI ?hIx (fun pre X hh => hh.1.see) ⟨hA0, HK.out.1⟩
    (fun i a' X => a' = { tmps := #[.pointer (some ⟨c, r, none⟩), .int .i64 (k : Int), undef, undef, .slice none 0 0, .slice (some ⟨T, 0, none⟩) B B, .pointer (some ⟨E, 0, none⟩), atP count size g f 0 i, .int .i64 n, .pointer (some ⟨c, r, none⟩), .pointer (some ⟨c, r, none⟩), .pointer (some ⟨c, r + 4, none⟩), .int .i64 (m : Int), .int .i64 (k : Int), .int .i64 (k : Int), .pointer (some ⟨c, r, none⟩), .pointer (some ⟨c, r, none⟩), .pointer (some ⟨c, r + 1, none⟩), .int .i64 (size : Int), .int .i64 (B : Int), .slice (some ⟨T, 0, none⟩) B B, .slice (some ⟨T, 0, none⟩) B B, .pointer (some ⟨c, r, none⟩), .pointer (some ⟨c, r, none⟩), .pointer (some ⟨c, r, none⟩), .pointer (some ⟨c, r + 4, none⟩), .int .i64 (m : Int), .func (.func 103) #[] #[.pointer (some ⟨E + 1 + 2, 0, none⟩), .pointer (some ⟨E + 1, 0, none⟩), .pointer (some ⟨E + 1 + 1, 0, none⟩)], atP count size g f 0 i, undef, undef, undef, undef, undef, undef, undef, undef, undef, undef, undef, undef, undef, undef, undef, undef, undef, undef, undef, undef, undef, undef, undef], defers := [] }) ?hAx ?assign ?body ?done ?stop
  case hI =>
    rintro pre X Y row ⟨h1, h2⟩ hg hr
    exact ⟨tinv_own (A := List Nat) (fun pre => pre.length) hcE hTE hTw (by omega) pre X Y row h1 hg hr, h2⟩
  case hIx =>
    rintro cc pre X Y row ⟨h0, h1, h2⟩ hg hr
    exact ⟨h0, tinv_own (A := List Nat) (fun pre => pre.length) hcE hTE hTw (by omega) pre X Y row h1 hg hr, h2⟩
  case hAx =>
    rintro i a' - X Y row rfl hg hr
    rfl
  case assign =>
    rintro l pre i X K hI ⟨hi, hiN⟩ hX hK
    subst hi
    have HKK := Lib.hid hK
    have HI := Lib.hid hI
    unfold atP
    clear hI hK
    gi_wp2
    exact HKK.out _ _ (KeepsAll.refl _ _) HI.out (by simp only [atP, Nat.zero_add])
  case body =>
    rintro l pre i a' X hX ⟨hA, hlt⟩ rfl ⟨hi, hiN⟩
    subst hi
    obtain ⟨t, ht⟩ : ∃ t, pre.length = t := ⟨_, rfl⟩
    have hsn : (pre ++ [t]).length = t + 1 := by rw [List.length_append, ht]; rfl
    rw [ht] at hA hlt hiN ⊢
    obtain ⟨v, b1, b2⟩ := hA.bl
    have hv := b2 hlt
    subst hv
    have hn := HN.out
    have hk := HK.out
    have htk : (t + 1) * size ≤ k * size := Nat.mul_le_mul_right _ hlt
    rw [Nat.add_mul, Nat.one_mul] at htk
    have hel : ((d.drop (t * size)).take size).length = size := by rw [List.length_take, List.length_drop]; omega
    obtain ⟨q1, q2⟩ := H.out.1.ring.elem H.out.1.len hn.1 hiN hn.2.2.1
    have hrz := rzb_part (H.out.1.row.past (TT hA.turn (Turn.refl _ X).drew)) q1
    rw [q2] at hrz
    have hpl : 0 + t = t := Nat.zero_add t
    obtain ⟨A, hA'⟩ : ∃ A, ((f + t) % count) * size = A := ⟨_, rfl⟩
    rw [hA'] at hrz
    have hrT := hA.told.past (Turn.refl _ X).drew
    have ecp := copy_row X.drew T (t * size) (B - t * size) (B - t * size) size (.slice (some ⟨g, A, none⟩) size size) ((d.drop (t * size)).take size) hrz (by omega) (by omega) (fun j hj => by
      have := (hrT.form.resolve_left (fun h => by cases h.1))
      obtain ⟨g', o, cap, h1, _, _, _, h5, h6⟩ := this
      simp only [Value.slice.injEq, Option.some.injEq, Addr.mk.injEq, and_true] at h1
      obtain ⟨⟨rfl, rfl⟩, _, rfl⟩ := h1
      have := h6 (t * size + j) (by omega)
      rwa [Nat.zero_add] at this) (fun j => (hrT.typed (k := T) rfl).free j)
    rw [List.take_of_length_le (show ((d.drop (t * size)).take size).length ≤ size by omega)] at ecp
    have e0 : X.drew.cell? ⟨E, 0, none⟩ = some (.slice (some ⟨T, t * size, none⟩) (B - t * size) (B - t * size)) := b1.cell
    have tW : Turn (fun k => k = T) X.drew (X.drew.setCells T (t * size) (bcells ((d.drop (t * size)).take size))) := wturn_sets (F := fun k => k = T) rfl _ _ _ _ (Turn.refl _ _)
    have b5 : Boxed (X.drew.setCells T (t * size) (bcells ((d.drop (t * size)).take size))) E 35 _ := Boxed.kept' (Boxed.kept' b1 (Turn.refl NoBlock X).drew (fun h => h)) tW (by omega)
    have e3 := b5.cell
    have e4 := b5.frozen
    have l5 := b5.lt
    obtain ⟨p, hsl, hp, -⟩ := sl_lo 35 1 elem_bytes size_bytes T (t * size) (B - t * size) (B - t * size) size (by omega) (Nat.le_refl _)
    have hnx := hA.next hk.2.2.1 hcl hTE (by omega) (by omega) hlt (p := p) (fun h2 => by
      have h3 : (t + 2) * size ≤ k * size := Nat.mul_le_mul_right _ h2
      rw [Nat.add_mul] at h3
      rw [hp (by omega), Nat.mul_one, Nat.add_mul, Nat.one_mul])
    have HNX := Lib.hid hnx
    have HKE : KeepsAll W2.heap.size X ((X.drew.setCells T (t * size) (bcells ((d.drop (t * size)).take size))).setCell ⟨E, 0, none⟩ (.slice p (B - t * size - size) (B - t * size - size))) := KeepsAll.of_turn (F := fun j => j = T ∨ j = E) (((Turn.refl _ X).drew.trans tW (fun _ h => .inl (.inl h))).setCell (p := ⟨E, 0, none⟩) (.inl (.inr rfl)) _) (fun j hj => by
      rcases hj with rfl | rfl
      · obtain ⟨cur, hc⟩ := hA.told.typed (k := j) rfl
        exact ⟨_, _, _, hc⟩
      · exact ⟨_, _, _, b1⟩)
    have HKP := Lib.hid HKE
    have hLs : size ≤ B - t * size := by omega
    generalize hL : B - t * size = L at *
    generalize X.drew.setCells T (t * size) (bcells ((d.drop (t * size)).take size)) = W3 at *
    unfold atP
    rw [hpl, hA']
    have HL := Lib.hid (And.intro hL (And.intro hk.2.2.1.symm htk))
    have HSN := Lib.hid (And.intro hsn (And.intro hlt hiN))
    clear hn hk htk hel hpl hrz hrT tW hnx HKE b1 b2 hA hA' hL ht hsn hlt hiN b5 hp q1 q2
    gi_wp2
    refine round_held (S := fun _ => True) (by kernel_rfl) (by kernel_rfl) (fun ⟨a, w, h⟩ => h) trivial (fun _ => ?_)
    refine wpAnyH_take (i := 2) (oi := ?oi1) (v := ?v1) ?hi1 (by kernel_rfl) (by kernel_rfl) (by kernel_rfl) ?hq1 (Or.inl ⟨?hw1, ?hy1⟩) trivial ?rest1
    case hi1 => rfl
    case hq1 => exact fun c a w h => h
    case hw1 => rfl
    case hy1 => (intro w hSw; go_simp; (try (with_reducible rfl)))
    (try simp only [Act.put, List.setIfInBounds_toArray, List.set_cons_zero, List.set_cons_succ])
    refine wpAnyH_ready (rs := [0, 1]) (by kernel_rfl) (by simp) ?_
    refine AllReadyH.cons rfl (fun K' hK' => ?_) ?_
    · go_simp
      refine hK' _ _ trivial (fun _ => ?_)
      clear hK' K'
      (try simp only [Act.put, List.setIfInBounds_toArray, List.set_cons_zero, List.set_cons_succ])
      refine wpAnyH_ready (rs := [1]) (by kernel_rfl) (by simp) ?_
      refine AllReadyH.cons rfl (fun K' hK' => ?_) AllReadyH.nil
      go_simp
      refine hK' _ _ trivial (fun _ => ?_)
      clear hK' K'
      (try simp only [Act.put, List.setIfInBounds_toArray, List.set_cons_zero, List.set_cons_succ])
      refine wpAnyH_ready (rs := [3]) (by kernel_rfl) (by simp) ?_
      refine AllReadyH.cons rfl (fun K' hK' => ?_) AllReadyH.nil
      go_simp
      refine hK' _ _ trivial (fun _ => ?_)
      clear hK' K'
      (try simp only [Act.put, List.setIfInBounds_toArray, List.set_cons_zero, List.set_cons_succ])
      refine wpAnyH_ready (rs := [4]) (by kernel_rfl) (by simp) ?_
      refine AllReadyH.cons rfl (fun K' hK' => ?_) AllReadyH.nil
      go_simp
      refine hK' _ _ trivial (fun _ => ?_)
      clear hK' K'
      (try simp only [Act.put, List.setIfInBounds_toArray, List.set_cons_zero, List.set_cons_succ])
      refine wpAnyH_ready (rs := [5]) (by kernel_rfl) (by simp) ?_
      refine AllReadyH.cons rfl (fun K' hK' => ?_) AllReadyH.nil
      go_simp
      refine hK' _ _ trivial (fun _ => ?_)
      clear hK' K'
      (try simp only [Act.put, List.setIfInBounds_toArray, List.set_cons_zero, List.set_cons_succ])
      refine wpAnyH_done (by kernel_rfl) ?_ _
      by_cases hz : L - size = 0
      · have hz' : ((L - size : Nat) : Int) = 0 := by omega
        rw [hz] at HNX HKP
        gi_wp2
        exact ⟨HKP.out, rfl, by rw [HSN.out.1]; exact HNX.out, by rw [HSN.out.1]; exact last_k HL.out.2.1 HL.out.1 hz HN.out.2.2.2.1 HSN.out.2.1⟩
      · have hz' : ((L - size : Nat) : Int) ≠ 0 := by omega
        have hz2 : (((L - size : Nat) : Int) == 0) = false := by simpa using hz'
        gi_wp2
        exact ⟨HKP.out, by rw [HSN.out.1]; exact HNX.out, by rw [HSN.out.1]; exact more_k HL.out.2.1 HL.out.1 hz HN.out.2.2.2.1 HSN.out.2.1⟩
    refine AllReadyH.cons rfl (fun K' hK' => ?_) AllReadyH.nil
    go_simp
    refine hK' _ _ trivial (fun _ => ?_)
    clear hK' K'
    (try simp only [Act.put, List.setIfInBounds_toArray, List.set_cons_zero, List.set_cons_succ])
    refine wpAnyH_ready (rs := [0, 3]) (by kernel_rfl) (by simp) ?_
    refine AllReadyH.cons rfl (fun K' hK' => ?_) ?_
    · go_simp
      refine hK' _ _ trivial (fun _ => ?_)
      clear hK' K'
      (try simp only [Act.put, List.setIfInBounds_toArray, List.set_cons_zero, List.set_cons_succ])
      refine wpAnyH_ready (rs := [3]) (by kernel_rfl) (by simp) ?_
      refine AllReadyH.cons rfl (fun K' hK' => ?_) AllReadyH.nil
      go_simp
      refine hK' _ _ trivial (fun _ => ?_)
      clear hK' K'
      (try simp only [Act.put, List.setIfInBounds_toArray, List.set_cons_zero, List.set_cons_succ])
      refine wpAnyH_ready (rs := [4]) (by kernel_rfl) (by simp) ?_
      refine AllReadyH.cons rfl (fun K' hK' => ?_) AllReadyH.nil
      go_simp
      refine hK' _ _ trivial (fun _ => ?_)
      clear hK' K'
      (try simp only [Act.put, List.setIfInBounds_toArray, List.set_cons_zero, List.set_cons_succ])
      refine wpAnyH_ready (rs := [5]) (by kernel_rfl) (by simp) ?_
      refine AllReadyH.cons rfl (fun K' hK' => ?_) AllReadyH.nil
      go_simp
      refine hK' _ _ trivial (fun _ => ?_)
      clear hK' K'
      (try simp only [Act.put, List.setIfInBounds_toArray, List.set_cons_zero, List.set_cons_succ])
      refine wpAnyH_done (by kernel_rfl) ?_ _
      by_cases hz : L - size = 0
      · have hz' : ((L - size : Nat) : Int) = 0 := by omega
        rw [hz] at HNX HKP
        gi_wp2
        exact ⟨HKP.out, rfl, by rw [HSN.out.1]; exact HNX.out, by rw [HSN.out.1]; exact last_k HL.out.2.1 HL.out.1 hz HN.out.2.2.2.1 HSN.out.2.1⟩
      · have hz' : ((L - size : Nat) : Int) ≠ 0 := by omega
        have hz2 : (((L - size : Nat) : Int) == 0) = false := by simpa using hz'
        gi_wp2
        exact ⟨HKP.out, by rw [HSN.out.1]; exact HNX.out, by rw [HSN.out.1]; exact more_k HL.out.2.1 HL.out.1 hz HN.out.2.2.2.1 HSN.out.2.1⟩
    refine AllReadyH.cons rfl (fun K' hK' => ?_) AllReadyH.nil
    go_simp
    refine hK' _ _ trivial (fun _ => ?_)
    clear hK' K'
    (try simp only [Act.put, List.setIfInBounds_toArray, List.set_cons_zero, List.set_cons_succ])
    refine wpAnyH_ready (rs := [0]) (by kernel_rfl) (by simp) ?_
    refine AllReadyH.cons rfl (fun K' hK' => ?_) AllReadyH.nil
    go_simp
    refine hK' _ _ trivial (fun _ => ?_)
    clear hK' K'
    (try simp only [Act.put, List.setIfInBounds_toArray, List.set_cons_zero, List.set_cons_succ])
    refine wpAnyH_ready (rs := [4]) (by kernel_rfl) (by simp) ?_
    refine AllReadyH.cons rfl (fun K' hK' => ?_) AllReadyH.nil
    go_simp
    refine hK' _ _ trivial (fun _ => ?_)
    clear hK' K'
    (try simp only [Act.put, List.setIfInBounds_toArray, List.set_cons_zero, List.set_cons_succ])
    refine wpAnyH_ready (rs := [5]) (by kernel_rfl) (by simp) ?_
    refine AllReadyH.cons rfl (fun K' hK' => ?_) AllReadyH.nil
    go_simp
    refine hK' _ _ trivial (fun _ => ?_)
    clear hK' K'
    (try simp only [Act.put, List.setIfInBounds_toArray, List.set_cons_zero, List.set_cons_succ])
    refine wpAnyH_done (by kernel_rfl) ?_ _
    by_cases hz : L - size = 0
    · have hz' : ((L - size : Nat) : Int) = 0 := by omega
      rw [hz] at HNX HKP
      gi_wp2
      exact ⟨HKP.out, rfl, by rw [HSN.out.1]; exact HNX.out, by rw [HSN.out.1]; exact last_k HL.out.2.1 HL.out.1 hz HN.out.2.2.2.1 HSN.out.2.1⟩
    · have hz' : ((L - size : Nat) : Int) ≠ 0 := by omega
      have hz2 : (((L - size : Nat) : Int) == 0) = false := by simpa using hz'
      gi_wp2
      exact ⟨HKP.out, by rw [HSN.out.1]; exact HNX.out, by rw [HSN.out.1]; exact more_k HL.out.2.1 HL.out.1 hz HN.out.2.2.2.1 HSN.out.2.1⟩
  case done =>
    rintro D xs X hD hxl ⟨hA, hlt⟩ hK
    rw [hxl] at hlt
    have := HK.out
    omega
  case stop =>
    rintro D cc pre X hD - ⟨rfl, hA, hlt⟩ hK
    rw [hlt] at hA
    clear hlt
    have CB := Lib.hid (fbehind hA.see.hd HN.out.2.2.2.2.2.1 k (by have := HK.out; have := HN.out; omega))
    have e4 : X.cell? ⟨c, r + 4, none⟩ = some (.int .i64 (m : Int)) := by
      have h5 := H.out.1.c5
      rw [HN.out.1, Nat.mul_div_cancel _ (show 0 < size by have := HN.out; omega)] at h5
      exact hA.turn.cell h5 (fun h => h)
    have e3 : X.cell? ⟨c, r + 3, none⟩ = some (.int .i64 (f : Int)) := hA.see.hd.c4
    have e6 := (H.out.2.1.kept hA.turn (fun h => h)).free (r + 3)
    have e7 := (H.out.2.1.kept hA.turn (fun h => h)).free (r + 4)
    have ew2 : IntKind.i64.wrap ((m : Int) - (k : Int)) = (m : Int) - (k : Int) := wrap_fit _ (by have := HN.out; have := HK.out; unfold fit; omega)
    obtain ⟨nf, hnf⟩ : ∃ nf, (f + k) % count = nf := ⟨_, rfl⟩
    rw [hnf] at CB
    have HF := Lib.hid (hA.fin H.out.1 H.out.2.1 H.out.2.2 HK.out.2.2.1 HN.out.1 HN.out.2.2.2.1 HK.out.2.1 hcE hT hTE nf hnf)
    have HKK := Lib.hid hK
    have HD := Lib.hid hD
    have HSZ := Lib.hid (And.intro hs2 hTE)
    clear hK hA hD hnf
    gi_wp2_with (refine ⟨trivial, ?_⟩; gi_at_call 99; refine (callsIn_wide.2 CB.out).mono ?_; rintro e w' ⟨rfl, m8, rfl⟩)
    have hDD := HD.out
    have hdl : (X.drewN m8).heap[D]? = some (.deferred (some [])) := HKK.out
    have hdd1 : ((X.drewN m8).setCell ⟨c, r + 3, none⟩ (.int .i64 (nf : Int))).heap[D]? = some (.deferred (some [])) := set_past hdl (p := ⟨c, r + 3, none⟩) (by show D ≠ c; omega) _
    have hdd : (((X.drewN m8).setCell ⟨c, r + 3, none⟩ (.int .i64 (nf : Int))).setCell ⟨c, r + 4, none⟩ (.int .i64 ((m : Int) - (k : Int)))).heap[D]? = some (.deferred (some [])) := set_past hdd1 (p := ⟨c, r + 4, none⟩) (by show D ≠ c; omega) _
    refine ⟨by simp, .inl ⟨_, _, rfl, run_takeDeferred hdd, ?_⟩⟩
    have tp := turn_putObj (((X.drewN m8).setCell ⟨c, r + 3, none⟩ (.int .i64 (nf : Int))).setCell ⟨c, r + 4, none⟩ (.int .i64 ((m : Int) - (k : Int)))) D (.deferred none)
    obtain ⟨g1, g2, g3, g4⟩ := HF.out m8 _ tp (fun k hk => by have := HSZ.out; omega)
    refine ⟨_, results_tmp rfl _ _ _, ⟨.slice (some ⟨T, 0, none⟩) B B, rfl, g1, fun j hj => ?_⟩, g2, g3, g4⟩
    have h9 : T = j := by simpa [Blk, Value.ownBlock] using hj
    omega
end Go.Proofs.Ytocaebcbmfejbaa
