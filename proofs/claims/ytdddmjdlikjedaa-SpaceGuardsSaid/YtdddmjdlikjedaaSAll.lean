/-
  Texts that stand one behind the other, in one.
-/
import Derived.Test.YtdddmjdlikjedaaGTab
import Derived.Test.YtdddmjdlikjedaaVAll2
import Derived.BigQuiet
import Derived.Laws.IdiomStrings
import Derived.Lib.SlBytesConst
/-
  Pieces that lie side by side from nothing on, and how many of a number.
-/
namespace Go.Proofs.Ytdddmjdlikjedaa
open Go.ChangeShapes Go.WideShapes Go.ChangeAt Go.RowKit

/-- All up to E is mapped, and nothing behind, all to the object i. -/
structure RunL (l : List Pc) (E i : Int) : Prop where
  full : ∀ y, 0 ≤ y → y < E → ¬ Free l y
  none : ∀ y, E ≤ y → Free l y
  vmo : ∀ p ∈ l, p.vmo = i
theorem RunL.nil (i : Int) : RunL [] 0 i := ⟨fun y h0 h1 => by omega, fun y _ p hp => (by cases hp.1), fun p hp => (by cases hp)⟩
section
variable {l : List Pc} {E i size n : Int}
theorem RunL.place (h : RunL l E i) (hE : 0 ≤ E) (hn : 0 < n) {at' : Int} (h0 : 0 ≤ at') (hf : ∀ x, at' ≤ x → x < at' + n → Free l x) (hl : ∀ s, 0 ≤ s → s < at' → ∃ x, s ≤ x ∧ x < s + n ∧ ¬ Free l x) : at' = E := by
  have h1 : ¬ at' < E := fun hh => h.full at' h0 hh (hf at' (Int.le_refl _) (by omega))
  have h2 : ¬ E < at' := fun hh => by
    obtain ⟨x, a1, _, a3⟩ := hl E hE hh
    exact a3 (h.none x a1)
  omega
theorem RunL.full' (h : RunL l E i) (hE : 0 ≤ E) (hl : ∀ s, 0 ≤ s → s + n ≤ size → ∃ x, s ≤ x ∧ x < s + n ∧ ¬ Free l x) : size < E + n := by
  rcases Int.lt_or_le size (E + n) with h1 | h1
  · exact h1
  · obtain ⟨x, a1, _, a3⟩ := hl E hE h1
    exact absurd (h.none x a1) a3
theorem RunL.put (h : RunL l E i) (hn : 0 < n) (k : Nat) (p : Pc) (h1 : p.at' = E) (h2 : p.len = n) (h3 : p.vmo = i) : RunL (putL l k p) (E + n) i := by
  refine ⟨fun y h0 hy hf => ?_, fun y hy => ?_, fun q hq => ?_⟩
  · rw [vw_free] at hf
    rcases Int.lt_or_le y E with h4 | h4
    · refine h.full y h0 h4 (vw_free.2 (fun t ht => hf t (vw_put.2 (.inl ht))))
    · exact hf p.key (vw_put.2 (.inr (vw_one.2 ⟨by omega, by unfold Pc.fin; omega, rfl⟩)))
  · rw [vw_free]
    intro t ht
    rcases vw_put.1 ht with h4 | h4
    · exact vw_free.1 (h.none y (by omega)) t h4
    · have := vw_one.1 h4
      unfold Pc.fin at this
      omega
  · rcases mem_put.1 hq with h4 | rfl
    · exact h.vmo q h4
    · exact h3
end
/-- How many pieces are mapped to an object. -/
def usesN (l : List Pc) (i : Int) : Nat := (l.filter (fun p => decide (p.vmo = i))).length
theorem uses_step {l : List Pc} {k : Nat} {p : Pc} (h : l[k]? = some p) (i : Int) : usesN (l.take (k + 1)) i = usesN (l.take k) i + (if p.vmo = i then 1 else 0) := by
  unfold usesN
  rw [List.take_add_one, h, List.filter_append, List.length_append]
  congr 1
  simp only [Option.toList_some, List.filter_cons, List.filter_nil]
  by_cases e : p.vmo = i
  · rw [if_pos (decide_eq_true e), if_pos e]; rfl
  · rw [if_neg (by simp [e]), if_neg e]; rfl
theorem uses_le (l : List Pc) (i : Int) : usesN l i ≤ l.length := List.length_filter_le _ _
theorem RunL.uses {l : List Pc} {E i : Int} (h : RunL l E i) : usesN l i = l.length := by
  unfold usesN
  rw [List.filter_eq_self.2 (fun p hp => decide_eq_true (h.vmo p hp))]
end Go.Proofs.Ytdddmjdlikjedaa

/-
  What Span answers when all of a range is mapped. No conditions but that the pieces rise and lie in the region.
-/
namespace Go.Proofs.Ytdddmjdlikjedaa
open Go.ChangeShapes Go.WideShapes Go.ChangeAt Go.RowKit

section
variable {l li : List Pc} {x n size : Int} {k b : Nat}
theorem ins_rise (hr : l.Pairwise (fun p q => p.fin ≤ q.at')) : (insL l k b x n).Pairwise (fun p q => p.fin ≤ q.at') := by
  unfold insL seg
  rw [List.pairwise_map]
  refine ((hr.sublist (List.take_sublist _ _)).sublist (List.drop_sublist _ _)).imp ?_
  intro p q h
  rw [part_fin, part_at]
  omega
theorem sum_cover : ∀ (l : List Pc) (lo hi : Int), l.Pairwise (fun p q => p.fin ≤ q.at') → (∀ p ∈ l, lo ≤ p.at' ∧ p.at' < p.fin ∧ p.fin ≤ hi) → (∀ y, lo ≤ y → y < hi → ∃ p ∈ l, p.at' ≤ y ∧ y < p.fin) → lo ≤ hi → sumP l = hi - lo
  | [], lo, hi, _, _, hc, h => by
    rcases Int.lt_or_le lo hi with h1 | h1
    · obtain ⟨p, hp, _⟩ := hc lo (Int.le_refl _) h1
      cases hp
    · show (0 : Int) = _
      omega
  | p :: r, lo, hi, hp, hb, hc, h => by
    have h1 := hb p (by simp)
    have h2 := List.pairwise_cons.1 hp
    have h3 : p.at' = lo := by
      obtain ⟨q, hq, a1, a2⟩ := hc lo (Int.le_refl _) (by omega)
      rcases List.mem_cons.1 hq with rfl | hq
      · omega
      · have := h2.1 q hq
        omega
    have h4 := sum_cover r p.fin hi h2.2 (fun q hq => ⟨h2.1 q hq, (hb q (by simp [hq])).2⟩) (fun y hy1 hy2 => by
      obtain ⟨q, hq, a1, a2⟩ := hc y (by omega) hy2
      rcases List.mem_cons.1 hq with rfl | hq
      · omega
      · exact ⟨q, hq, a1, a2⟩) h1.2.2
    have h5 : sumP (p :: r) = p.len + sumP r := by unfold sumP; simp
    unfold Pc.fin at *
    rw [h5]
    omega
/-- The parts of pieces that a range is. -/
structure SpM (l : List Pc) (x n : Int) (li : List Pc) : Prop where
  rise : li.Pairwise (fun p q => p.fin ≤ q.at')
  ins : ∀ q ∈ li, x ≤ q.at' ∧ q.at' < q.fin ∧ q.fin ≤ x + n ∧ ∃ p ∈ l, p.at' ≤ q.at' ∧ q.fin ≤ p.fin ∧ q.key = p.key
  cov : ∀ y, x ≤ y → y < x + n → ∃ p ∈ li, p.at' ≤ y ∧ y < p.fin
  sum : sumP li = n
  len : li.length ≤ l.length
theorem seg_len (l : List Pc) (k b : Nat) : (seg l k b).length ≤ l.length := by
  unfold seg
  rw [List.length_drop, List.length_take]
  omega
theorem not_free {y : Int} (h : ¬ Free l y) : ∃ t, Vw l y t := Classical.byContradiction fun hh => h (vw_free.2 (fun t ht => hh ⟨t, ht⟩))
theorem span_m (hs : SegIs l x n k b) (ok : GOK size l) (hx : 0 ≤ x) (hn : 0 ≤ n) (hc : ∀ y, x ≤ y → y < x + n → ¬ Free l y) : SpM l x n (insL l k b x n) := by
  have h1 : ∀ q ∈ insL l k b x n, x ≤ q.at' ∧ q.at' < q.fin ∧ q.fin ≤ x + n ∧ ∃ p ∈ l, p.at' ≤ q.at' ∧ q.fin ≤ p.fin ∧ q.key = p.key := fun q hq => by
    obtain ⟨a1, a2, a3, p, hp, a4⟩ := ins_in hs ok hq
    obtain ⟨i, _, _, hi⟩ := mem_seg hp
    exact ⟨a1, a2, a3, p, List.mem_of_getElem? hi, a4⟩
  have h2 : ∀ y, x ≤ y → y < x + n → ∃ p ∈ insL l k b x n, p.at' ≤ y ∧ y < p.fin := fun y a1 a2 => by
    obtain ⟨t, ht⟩ := not_free (hc y a1 a2)
    obtain ⟨p, b1, b2, b3, _⟩ := (vw_ins hs ok ⟨hx, by omega⟩).2 ⟨⟨a1, a2⟩, ht⟩
    exact ⟨p, b1, b2, b3⟩
  have h3 := sum_cover (insL l k b x n) x (x + n) (ins_rise ok.rise) (fun q hq => ⟨(h1 q hq).1, (h1 q hq).2.1, (h1 q hq).2.2.1⟩) h2 (by omega)
  refine ⟨ins_rise ok.rise, h1, h2, by omega, ?_⟩
  unfold insL
  rw [List.length_map]
  exact seg_len l k b
end

set_option maxRecDepth 20000 in
theorem span_any {w : World} {a : Nat} {size most : Int} {v : Value} {l : List Pc} (h : GMem w a size most v l) (ok : GOK size l) (hll : l.length ≤ 32768) (x n : Int) (hx : 0 ≤ x) (hn : 0 ≤ n) (hxn : x + n ≤ size) (hc : ∀ y, x ≤ y → y < x + n → ¬ Free l y) :
    Calls Try.prog 97 #[.pointer (some ⟨a, 0, none⟩), .int .i64 x, .int .i64 n] w fun e w' => ∃ vi, e = .returned (.tuple #[vi, .int .i64 0]) ∧ ∃ li, SpM l x n li ∧ PRow vi li w' ∧ (∀ j, Blk vi j → w.heap.size ≤ j) ∧ Turn NoBlock w w' := by
  obtain ⟨k, b, hs⟩ := seg_any ok x n
  have hm := span_m hs ok hx hn hc
  have c0 := h.c0
  have htop := ok.top
  have fx : fit x := by unfold fit; omega
  have fn : fit n := by unfold fit; omega
  have cW := fun w => gwithin_yes x n size w ⟨hx, hn, hxn⟩ (by omega)
  have cS := callsIn_wide.1 (split_in 4 (Nat.le_refl _) h ok (by omega) x n hx hn hxn k b hs)
  have hsum := hm.sum
  have hin := hm.ins
  have hlen := hm.len
  have HM := Lib.hid hm
  have cT := fun w1 vi (r1 : PRow vi (insL l k b x n) w1) => total_any r1 (fun p hp => by have := hin p hp; unfold Pc.fin at this; omega) (by omega) (by omega)
  rw [hsum] at cT
  have hlt : decide (n < n) = false := decide_eq_false (by omega)
  have hm0 : decide (min x n < 0) = false := decide_eq_false (by omega)
  clear h ok hs hc hm hin hlen hsum
  rcases Int.lt_or_le x n with hxn2 | hxn2
  all_goals
    go_enter Try.func97, Try.ntmps97
    go_wp2_with (first
      | (go_at_call 52; (with_reducible refine (cW _).mono ?_); rintro e w' ⟨rfl, rfl⟩)
      | (go_at_call 72; (with_reducible refine cS.mono ?_); rintro e w1 ⟨vi, vo, rfl, r1, r2, q1, q2, q3, t1⟩; have HQ := Lib.hid (And.intro r1 (And.intro q1 t1)); clear r1 r2 q1 q2 q3 t1)
      | (go_at_call 73; (with_reducible refine (cT _ _ HQ.out.1).mono ?_); rintro e w2 ⟨rfl, t2⟩; have T2 := Lib.hid t2; clear t2))
    all_goals
      go_ret2
      exact ⟨_, rfl, _, HM.out, HQ.out.1.past T2.out, HQ.out.2.1, HQ.out.2.2.trans T2.out (fun _ h => .inl h)⟩
section
variable {K : Nat → Prop} {W w w' : World} {a : Nat} {size most : Int} {l l' : List Pc}
theorem GT.span (h : GT K W a size most l w) (hs : size ≤ 65536) (x n : Int) (hx : 0 ≤ x) (hn : 0 ≤ n) (hxn : x + n ≤ size) (hc : ∀ y, x ≤ y → y < x + n → ¬ Free l y) :
    Calls Try.prog 97 #[.pointer (some ⟨a, 0, none⟩), .int .i64 x, .int .i64 n] w fun e w' => ∃ vi, e = .returned (.tuple #[vi, .int .i64 0]) ∧ ∃ li, SpM l x n li ∧ PRow vi li w' ∧ (∀ j, Blk vi j → w.heap.size ≤ j) ∧ Turn NoBlock w w' := by
  obtain ⟨v, h1, h2⟩ := h.mem
  have := gok_len h.ok
  exact span_any h1 h.ok (by omega) x n hx hn hxn hc
end
end Go.Proofs.Ytdddmjdlikjedaa

/-
  A set with one object: what stands in it, behind writes. No conditions but that the set is one that calls can make.
-/
namespace Go.Proofs.Ytdddmjdlikjedaa
open Go.ChangeShapes Go.WideShapes Go.ChangeAt Go.RowKit

theorem sgoP_cnt (k : Nat) : ∀ p i n, i < 64 → (goP k p i n).length * 64 ≤ i + n + 63 := by
  induction k with
  | zero => intro p i n _; simp [goP]
  | succ k ih =>
    intro p i n hi
    rw [goP_succ]
    by_cases h : n = 0
    · rw [if_pos h]; simp
    · rw [if_neg h, List.length_cons]
      have := ih (p + 1) 0 (n - min n (64 - i)) (by decide)
      by_cases h2 : n ≤ 64 - i
      · rw [show n - min n (64 - i) = 0 by omega, goP_nil]
        simp only [List.length_nil]
        omega
      · omega
theorem sparts_cnt (t n : Nat) : (partsL t n).length * 64 ≤ t % 64 + n + 63 := sgoP_cnt n _ _ n (Nat.mod_lt _ (by decide))
theorem sused_none (n : Nat) : usedN (List.replicate n Pg.none) = 0 := by
  unfold usedN
  rw [List.filter_eq_nil_iff.2 (fun p hp => by rw [List.eq_of_mem_replicate hp]; simp [Pg.none])]
  rfl
/-- One object, its size, what stands in it, and how many frames there are still at least. -/
structure So (M : Mod) (U : Nat) (C : Nat → UInt8) (o : Ob) (R : Nat) : Prop where
  at1 : M.O 1 = some o
  size : o.size = U
  drp : o.drp = false
  dep : o.depth = 0
  inv : Inv8 M
  made : M.made = 1
  cnt : o.cnt + R ≤ 65536
  flat : ∀ x, fl M.L o.pgs x = C x
  room : (R : Int) ≤ roomN M.L
def ZN (N m U : Nat) : Mod := ⟨m, 1, 1, updI (fun _ => none) 1 (some (newOb U 0 0 0)), List.replicate N Pg.none⟩
theorem sfam_none {N m U : Nat} (k : Key) : famOf (ZN N m U).O k = none := by
  unfold famOf ZN updI
  simp only
  by_cases e : k.1 = 1
  · rw [if_pos e]; rfl
  · rw [if_neg e]
theorem so_new (N m U : Nat) (hN : N ≤ 65536) (hU : U ≤ 4294967296) : So (ZN N m U) U (fun _ => 0) (newOb U 0 0 0) N := by
  have hc : Chain (ZN N m U).O := chain_one (n := 0) (m := 0) (o := newOb U 0 0 0) rfl hU (Nat.zero_le _)
  refine ⟨rfl, rfl, rfl, rfl, ⟨(Good.start N).congr sfam_none, hc, few_start N⟩, rfl, ?_, fun x => ?_, ?_⟩
  · show 0 + N ≤ _
    omega
  · unfold fl
    show (cont _ none).getD _ 0 = 0
    rw [cont_none]
    unfold blank
    rw [List.getD_eq_getElem?_getD, List.getElem?_replicate, if_pos (Nat.mod_lt _ (by decide))]
    rfl
  · show (N : Int) ≤ roomN (List.replicate N Pg.none)
    unfold roomN
    rw [sused_none, List.length_replicate]
    omega
section
variable {w : World} {s : Nat} {r : Rep} {M : Mod} {U R : Nat} {C : Nat → UInt8} {o : Ob}
theorem so_create {N m : Nat} (h : SMem w s r (M0 N m)) (hm : 0 < m ∧ m ≤ 65536) (n : Int) (h0 : 0 ≤ n) (h1 : n ≤ 4294967296) : Calls Try.prog 16 #[.pointer (some ⟨s, 0, none⟩), .int .i64 n] w fun e w' => e = .returned (.tuple #[.int .i64 1, .int .i64 0]) ∧ ∃ r', SMem w' s r' (ZN N m (upS n)) ∧ VNext w s r w' r' := by
  have hs : createS (M0 N m) n = 0 := by
    unfold createS M0
    rw [if_neg (by omega), if_neg (by omega), if_neg (by simp only; omega)]
  exact create_yes h n hs hm.2 (show 0 < 4611686018427387904 by decide)
theorem so_info (h : SMem w s r M) (z : So M U C o R) : Calls Try.prog 25 #[.pointer (some ⟨s, 0, none⟩), .int .i64 1] w fun e w' => e = .returned (.tuple #[InfoOf o, .bool true]) ∧ Turn NoBlock w w' :=
  info_yes h 1 (by unfold fit; omega) z.at1
/-- Bytes laid over others. -/
def layC (C : Nat → UInt8) (t : Nat) (bs : List UInt8) : Nat → UInt8 := fun x => if t ≤ x ∧ x < t + bs.length then bs.getD (x - t) 0 else C x
theorem so_write (h : SMem w s r M) (z : So M U C o R) (t : Nat) (v : Value) (bs : List UInt8) (hv : SrcF w s r v bs) (hl : bs.length ≤ 4096) (hU : t + bs.length ≤ U) (ht : t ≤ 65536) (P : Nat) (hP : t % 64 + bs.length < 64 * P + 1) (hPR : P ≤ R) :
    Calls Try.prog 17 #[.pointer (some ⟨s, 0, none⟩), .int .i64 1, .int .i64 (t : Int), v] w fun e w' => e = .returned (.int .i64 0) ∧ ∃ r' M' o', (SMem w' s r' M' ∧ So M' U (layC C t bs) o' (R - P)) ∧ VNext w s r w' r' := by
  have hp := sparts_cnt t bs.length
  have hr := z.room
  have hlk : (lackN ⟨M.L, o.pgs, o.cnt⟩ (partsL t bs.length) : Int) ≤ roomN M.L := by
    have := lackN_le ⟨M.L, o.pgs, o.cnt⟩ (partsL t bs.length)
    omega
  have W := write_inv z.inv z.at1 z.dep (full_pool h.pool) t bs hlk
  have hcc := z.cnt
  have c := write8_ok h z.inv.chain (by rw [z.made]; decide) (i := 1) (by unfold fit; omega) z.at1 z.drp t v bs hv hl (by rw [z.size]; omega) (j := 1) (q := o) (t' := t) (by rw [z.dep]; rfl) z.at1 (by omega) z.inv.few (by omega) hlk
  refine Calls.mono c ?_
  rintro e w' ⟨rfl, r', m, k⟩
  refine ⟨rfl, r', wrM M 1 o t bs, wrO M o t bs, ⟨m, ?_, z.size, z.drp, z.dep, W.inv, z.made, ?_, fun x => ?_, ?_⟩, k⟩
  · rw [W.obj, updI_same]
  · have := W.cnt
    omega
  · rw [W.flat, z.flat]
    rfl
  · have := W.room
    omega
theorem so_read (h : SMem w s r M) (z : So M U C o R) (t n : Nat) (hn : n ≤ 4096) (htn : t + n ≤ U) (hU : U ≤ 4294967296) :
    Calls Try.prog 18 #[.pointer (some ⟨s, 0, none⟩), .int .i64 1, .int .i64 (t : Int), .int .i64 (n : Int)] w fun e w' => ∃ u, e = .returned (.tuple #[u, .int .i64 0]) ∧ Byts u ((List.range n).map fun j => C (t + j)) w' ∧ (∀ j, Blk u j → w.heap.size ≤ j) ∧ Turn NoBlock w w' := by
  have c := read8_ok h z.inv.chain z.inv.held (by rw [z.made]; decide) (i := 1) (by unfold fit; omega) z.at1 z.drp t n hn (by rw [z.size]; exact htn) (j := 1) (q := o) (t' := t) (by rw [z.dep]; rfl) z.at1 (by omega)
  refine Calls.mono c ?_
  rintro e w' ⟨u, rfl, hB, hf, tt⟩
  refine ⟨u, rfl, ?_, hf, tt⟩
  rw [read_flat (S := ⟨M.L, o.pgs, o.cnt⟩) (full_pool h.pool)] at hB
  rwa [show ((List.range n).map fun j => C (t + j)) = (List.range n).map fun j => fl M.L o.pgs (t + j) from List.map_congr_left (fun j _ => (z.flat _).symm)]
end
end Go.Proofs.Ytdddmjdlikjedaa

/-
  What New, Map, Protect, Pieces and Uses of a space answer. No conditions but that the set and the region are ones that calls can make, and that arguments are numbers of 64 bits.
-/
namespace Go.Proofs.Ytdddmjdlikjedaa
open Go.ChangeShapes Go.WideShapes Go.ChangeAt Go.RowKit

/-- A space at block c: its set and its region. -/
def SpAt (w : World) (c s a : Nat) : Prop := w.heap[c]? = some (.cells #[.pointer (some ⟨s, 0, none⟩), .pointer (some ⟨a, 0, none⟩)] 125 (0, 0))
section
variable {w w' : World} {c s a : Nat}
theorem SpAt.past {F : Nat → Prop} (h : SpAt w c s a) (t : Turn F w w') (hF : ¬ F c) : SpAt w' c s a := t.heap h hF
theorem SpAt.c0 (h : SpAt w c s a) : w.cell? ⟨c, 0, none⟩ = some (.pointer (some ⟨s, 0, none⟩)) := by simpa using cell_at h 0
theorem SpAt.c1 (h : SpAt w c s a) : w.cell? ⟨c, 1, none⟩ = some (.pointer (some ⟨a, 0, none⟩)) := by simpa using cell_at h 1
end
set_option maxRecDepth 20000 in
theorem znew_any (s : Nat) (size most : Int) (w : World) (h1 : isMul size) (h2 : size ≤ 4294967296) (h3 : 0 ≤ most ∧ most ≤ 65536) :
    Calls Try.prog 40 #[.pointer (some ⟨s, 0, none⟩), .int .i64 size, .int .i64 most] w fun e w' => e = .returned (.pointer (some ⟨w.heap.size + 1, 0, none⟩)) ∧ w' = (w.alloc (.cells #[.int .i64 size, .int .i64 most, .slice none 0 0] 114)).alloc (.cells #[.pointer (some ⟨s, 0, none⟩), .pointer (some ⟨w.heap.size, 0, none⟩)] 125) := by
  have cN := new_any size most w h1 h2 h3
  go_enter Try.func40, Try.ntmps40
  go_wp2_with (go_at_call 30; (with_reducible refine cN.mono ?_); rintro e w1 ⟨rfl, rfl⟩)
  go_ret
  exact ⟨by simp, rfl⟩

/-- What is told of a range of an object. -/
def lieS (o : Ob) (f n : Int) : Int := if n < 0 ∨ f < 0 then -10 else if f + n ≤ o.size then 0 else -14
theorem lieS_is (o : Ob) (f n : Int) : lieS o f n = -10 ∨ lieS o f n = 0 ∨ lieS o f n = -14 := by
  unfold lieS
  split
  · exact .inl rfl
  · split
    · exact .inr (.inl rfl)
    · exact .inr (.inr rfl)
set_option maxRecDepth 20000 in
theorem lies_any {w : World} {c s a : Nat} {r : Rep} {M : Mod} (hc : SpAt w c s a) (hm : SMem w s r M) (i f n : Int) (hi : fit i) (hf : fit f) (hn : fit n) {o : Ob} (hO : M.O i = some o) (hd : o.drp = false) (hz : o.size ≤ 4294967296) :
    Calls Try.prog 76 #[.pointer (some ⟨c, 0, none⟩), .int .i64 i, .int .i64 f, .int .i64 n] w fun e w' => e = .returned (.int .i64 (lieS o f n)) ∧ Turn NoBlock w w' := by
  have c0 := hc.c0
  have cI := info_yes hm i hi hO
  unfold InfoOf at cI
  rw [hd] at cI
  obtain ⟨oz, hoz⟩ : ∃ oz : Int, oz = (o.size : Int) := ⟨_, rfl⟩
  rw [← hoz] at cI
  unfold lieS
  rw [← hoz]
  have hz2 : 0 ≤ oz ∧ oz ≤ 4294967296 := by omega
  have cY := fun (h : 0 ≤ f ∧ 0 ≤ n ∧ f + n ≤ oz) w => gwithin_yes f n oz w h (by omega)
  have cX := fun (h : ¬ (0 ≤ f ∧ 0 ≤ n ∧ f + n ≤ oz)) w => gwithin_no f n oz w h hf hn (by unfold fit; omega)
  have HD := Lib.hid hoz
  clear hc hm hO hd hz hoz
  by_cases h1 : n < 0 ∨ f < 0
  · rw [if_pos h1]
    rcases Int.lt_or_le n f with h2 | h2
    all_goals
      have h3 : decide (min n f < 0) = true := decide_eq_true (by omega)
      go_enter Try.func76, Try.ntmps76
      go_wp2_with (first
        | (go_at_call 25; (with_reducible refine cI.mono ?_); rintro e w1 ⟨rfl, t1⟩; have T1 := Lib.hid t1; clear t1))
      all_goals
        go_ret
        exact ⟨rfl, T1.out.alloc _⟩
  · rw [if_neg h1]
    by_cases h4 : f + n ≤ oz
    · rw [if_pos h4]
      have cY1 := cY ⟨by omega, by omega, h4⟩
      clear cX cY
      rcases Int.lt_or_le n f with h2 | h2
      all_goals
        have h3 : decide (min n f < 0) = false := decide_eq_false (by omega)
        go_enter Try.func76, Try.ntmps76
        go_wp2_with (first
          | (go_at_call 25; (with_reducible refine cI.mono ?_); rintro e w1 ⟨rfl, t1⟩; have T1 := Lib.hid t1; clear t1)
          | (go_at_call 52; (with_reducible refine (cY1 _).mono ?_); rintro e w' ⟨rfl, rfl⟩))
        all_goals
          go_ret
          exact ⟨rfl, T1.out.alloc _⟩
    · rw [if_neg h4]
      have cX1 := cX (fun h => h4 h.2.2)
      clear cX cY
      rcases Int.lt_or_le n f with h2 | h2
      all_goals
        have h3 : decide (min n f < 0) = false := decide_eq_false (by omega)
        go_enter Try.func76, Try.ntmps76
        go_wp2_with (first
          | (go_at_call 25; (with_reducible refine cI.mono ?_); rintro e w1 ⟨rfl, t1⟩; have T1 := Lib.hid t1; clear t1)
          | (go_at_call 52; (with_reducible refine (cX1 _).mono ?_); rintro e w' ⟨rfl, rfl⟩))
        all_goals
          go_ret
          exact ⟨rfl, T1.out.alloc _⟩
end Go.Proofs.Ytdddmjdlikjedaa

/-
  What Map answers. No conditions but that the set and the region are ones that calls can make, and that arguments are numbers of 64 bits.
-/
namespace Go.Proofs.Ytdddmjdlikjedaa
open Go.ChangeShapes Go.WideShapes Go.ChangeAt Go.RowKit

section
variable {K : Nat → Prop} {W w : World} {c s a : Nat} {r : Rep} {M : Mod} {size most : Int} {l : List Pc} {o : Ob}
set_option maxRecDepth 20000 in
/-- What is told of the object's range stands ahead of all. -/
theorem map_lie (x n i f p : Int) {z : Int} (hz : z = -25 ∨ z = -10 ∨ z = -14) (hL : Calls Try.prog 76 #[.pointer (some ⟨c, 0, none⟩), .int .i64 i, .int .i64 f, .int .i64 n] w fun e w' => e = .returned (.int .i64 z) ∧ Turn NoBlock w w') :
    Calls Try.prog 41 #[.pointer (some ⟨c, 0, none⟩), .int .i64 x, .int .i64 n, .int .i64 i, .int .i64 f, .int .i64 p] w fun e w' => e = .returned (.tuple #[.int .i64 0, .int .i64 z]) ∧ Turn NoBlock w w' := by
  rcases hz with rfl | rfl | rfl
  all_goals
    go_enter Try.func41, Try.ntmps41
    go_wp2_with (go_at_call 76; (with_reducible refine hL.mono ?_); rintro e w1 ⟨rfl, t1⟩)
    go_ret2
    exact ⟨rfl, t1⟩
set_option maxRecDepth 20000 in
/-- Nothing so long can be placed. -/
theorem map_none (hc : SpAt w c s a) (g : GT K W a size most l w) (hs : size ≤ 65536) (n i f p : Int) (fn : fit n) (hno : ¬ isGrid 0 n ∨ ∀ s, 0 ≤ s → s + n ≤ size → ∃ y, s ≤ y ∧ y < s + n ∧ ¬ Free l y) (hL : Calls Try.prog 76 #[.pointer (some ⟨c, 0, none⟩), .int .i64 i, .int .i64 f, .int .i64 n] w fun e w' => e = .returned (.int .i64 0) ∧ Turn NoBlock w w') :
    Calls Try.prog 41 #[.pointer (some ⟨c, 0, none⟩), .int .i64 (-1), .int .i64 n, .int .i64 i, .int .i64 f, .int .i64 p] w fun e w' => (∃ z : Int, z < 0 ∧ e = .returned (.tuple #[.int .i64 0, .int .i64 z])) ∧ Turn NoBlock w w' := by
  have cP : ∀ w', Turn NoBlock w w' → Calls Try.prog 38 #[.pointer (some ⟨a, 0, none⟩), .int .i64 n] w' fun e w'' => (e = .returned (.tuple #[.int .i64 0, .int .i64 (-10)]) ∨ e = .returned (.tuple #[.int .i64 0, .int .i64 (-4)])) ∧ Turn NoBlock w' w'' := fun w' t => by
    by_cases hg : isGrid 0 n
    · refine ((g.past t).place hs n fn hg).mono ?_
      rintro e w'' ⟨h1, h2⟩
      rcases place_win g.ok (by unfold isGrid at hg; exact hg.2.2) h1 with ⟨at', h3, h4, h5, h6, _⟩ | ⟨h3, _⟩
      · rcases hno with h | h
        · exact absurd hg h
        · obtain ⟨y, b1, b2, b3⟩ := h at' h4 h5
          exact absurd (h6 y b1 b2) b3
      · exact ⟨.inr h3, h2⟩
    · refine (place_no a n w' hg).mono ?_
      rintro e w'' ⟨h1, rfl⟩
      exact ⟨.inl h1, Turn.refl _ _⟩
  have hC := Lib.hid (fun w' (t : Turn NoBlock w w') => (hc.past t id).c1)
  clear hc g hno fn
  go_enter Try.func41, Try.ntmps41
  go_wp2_with (first
    | (go_at_call 76; (with_reducible refine hL.mono ?_); rintro e w1 ⟨rfl, t1⟩; have c1 := hC.out _ t1; have cP1 := cP _ t1; have T1 := Lib.hid t1; clear t1)
    | (go_at_call 38; (with_reducible refine cP1.mono ?_); rintro e w2 ⟨rfl | rfl, t2⟩))
  all_goals
    go_ret2
    exact ⟨⟨_, by omega, rfl⟩, T1.out.trans t2 (fun _ h => .inl h)⟩
/-- Put where all is free. -/
theorem put_free (g : GT K W a size most l w) (hs : size ≤ 65536) (hm : (l.length : Int) < most ∧ most ≤ 65536) (n i f p E : Int) (hn : isGrid E n) (hf : isMul f ∧ f ≤ 4294967296) (hp : isProt p) (hin : E + n ≤ size) (hfree : ∀ y, E ≤ y → y < E + n → Free l y) :
    Calls Try.prog 32 #[.pointer (some ⟨a, 0, none⟩), (⟨E, n, i, f, p⟩ : Pc).agg] w fun e w' => e = .returned (.int .i64 0) ∧ ∃ k, GT K W a size most (putL l k ⟨E, n, i, f, p⟩) w' ∧ Turn (fun j => ¬ K j ∧ W.heap.size ≤ j) w w' := by
  have h0 : 0 ≤ E ∧ 0 < n := by unfold isGrid isMul at hn; omega
  have htop := g.ok.top
  refine (g.put hs hm ⟨E, n, i, f, p⟩ (by unfold fit; simp only; omega)).mono ?_
  rintro e w' (⟨z, _, _, h3, _⟩ | ⟨k, h1, _, h2, h3⟩)
  · refine absurd ⟨⟨hn, hf.1, hf.2, hp⟩, hin, fun q hq hov => ?_⟩ h3
    unfold Ov at hov
    simp only at hov
    have hq2 := (g.ok.each q hq).1
    exact hfree (max E q.at') (by omega) (by unfold Pc.fin at *; omega) q ⟨hq, by omega, by unfold Pc.fin at *; omega⟩
  · exact ⟨h1, k, h2, h3⟩
set_option maxRecDepth 20000 in
/-- Mapped where there is room. -/
theorem map_room (hc : SpAt w c s a) (g : GT K W a size most l w) (hs : size ≤ 65536) (hm : (l.length : Int) < most ∧ most ≤ 65536) (n i f p E : Int) (fn : fit n) (hn : isGrid 0 n) (hE64 : E % 64 = 0) (hf : isMul f ∧ f ≤ 4294967296) (hp : isProt p)
    (hE : ∀ x, 0 ≤ x → x + n ≤ size → (∀ y, x ≤ y → y < x + n → Free l y) → (∀ s, 0 ≤ s → s < x → ∃ y, s ≤ y ∧ y < s + n ∧ ¬ Free l y) → x = E) (hsome : ∃ s, 0 ≤ s ∧ s + n ≤ size ∧ ∀ y, s ≤ y → y < s + n → Free l y) (hL : Calls Try.prog 76 #[.pointer (some ⟨c, 0, none⟩), .int .i64 i, .int .i64 f, .int .i64 n] w fun e w' => e = .returned (.int .i64 0) ∧ Turn NoBlock w w') :
    Calls Try.prog 41 #[.pointer (some ⟨c, 0, none⟩), .int .i64 (-1), .int .i64 n, .int .i64 i, .int .i64 f, .int .i64 p] w fun e w' => e = .returned (.tuple #[.int .i64 E, .int .i64 0]) ∧ ∃ k, GT K W a size most (putL l k ⟨E, n, i, f, p⟩) w' ∧ Turn (fun j => ¬ K j ∧ W.heap.size ≤ j) w w' := by
  have hn0 : 0 < n ∧ n % 64 = 0 := by unfold isGrid isMul at hn; omega
  have cP : ∀ w', Turn NoBlock w w' → Calls Try.prog 38 #[.pointer (some ⟨a, 0, none⟩), .int .i64 n] w' fun e w'' => (e = .returned (.tuple #[.int .i64 E, .int .i64 0]) ∧ 0 ≤ E ∧ E + n ≤ size ∧ ∀ y, E ≤ y → y < E + n → Free l y) ∧ Turn NoBlock w' w'' := fun w' t => by
    refine ((g.past t).place hs n fn hn).mono ?_
    rintro e w'' ⟨h1, h2⟩
    rcases place_win g.ok hn0.1 h1 with ⟨at', h3, h4, h5, h6, h7⟩ | ⟨h3, h4⟩
    · have := hE at' h4 h5 h6 h7
      subst this
      exact ⟨⟨h3, h4, h5, h6⟩, h2⟩
    · obtain ⟨s, b1, b2, b3⟩ := hsome
      obtain ⟨y, d1, d2, d3⟩ := h4 s b1 b2
      exact absurd (b3 y d1 d2) d3
  have hC := Lib.hid (fun w' (t : Turn NoBlock w w') => (hc.past t id).c1)
  have HU := Lib.hid (fun w' (t : Turn NoBlock w w') (hh : 0 ≤ E ∧ E + n ≤ size ∧ ∀ y, E ≤ y → y < E + n → Free l y) => put_free (g.past t) hs hm n i f p E (by unfold isGrid isMul; omega) hf hp hh.2.1 hh.2.2)
  unfold Pc.agg at HU
  clear hc g hE hsome fn hn hf hp hm hn0 hE64
  go_enter Try.func41, Try.ntmps41
  go_wp2_with (first
    | (go_at_call 76; (with_reducible refine hL.mono ?_); rintro e w1 ⟨rfl, t1⟩; have c1 := hC.out _ t1; have cP1 := cP _ t1; have T1 := Lib.hid t1; clear t1)
    | (go_at_call 38; (with_reducible refine cP1.mono ?_); rintro e w2 ⟨⟨rfl, hh⟩, t2⟩; have T2 := Lib.hid (T1.out.trans t2 (fun _ h => .inl h)); have c2 := hC.out _ T2.out; have cU := HU.out _ T2.out hh; clear hh t2)
    | (go_at_call 32; (with_reducible refine cU.mono ?_); rintro e w3 ⟨rfl, k, g3⟩; have G3 := Lib.hid g3; clear g3))
  go_ret2
  exact ⟨rfl, k, G3.out.1, (T2.out.mono (fun _ h => h.elim)).trans G3.out.2 (fun _ h => .inl h)⟩
set_option maxRecDepth 20000 in
/-- Mapped where it is asked for. -/
theorem map_at (hc : SpAt w c s a) (g : GT K W a size most l w) (hs : size ≤ 65536) (hm : (l.length : Int) < most ∧ most ≤ 65536) (n i f p E : Int) (hn : isGrid E n) (hf : isMul f ∧ f ≤ 4294967296) (hp : isProt p) (hin : E + n ≤ size) (hfree : ∀ y, E ≤ y → y < E + n → Free l y)
    (hL : Calls Try.prog 76 #[.pointer (some ⟨c, 0, none⟩), .int .i64 i, .int .i64 f, .int .i64 n] w fun e w' => e = .returned (.int .i64 0) ∧ Turn NoBlock w w') :
    Calls Try.prog 41 #[.pointer (some ⟨c, 0, none⟩), .int .i64 E, .int .i64 n, .int .i64 i, .int .i64 f, .int .i64 p] w fun e w' => e = .returned (.tuple #[.int .i64 E, .int .i64 0]) ∧ ∃ k, GT K W a size most (putL l k ⟨E, n, i, f, p⟩) w' ∧ Turn (fun j => ¬ K j ∧ W.heap.size ≤ j) w w' := by
  have hC := Lib.hid (fun w' (t : Turn NoBlock w w') => (hc.past t id).c1)
  have HU := Lib.hid (fun w' (t : Turn NoBlock w w') => put_free (g.past t) hs hm n i f p E hn hf hp hin hfree)
  unfold Pc.agg at HU
  have hE1 : ¬ E = -1 := by unfold isGrid isMul at hn; omega
  clear hc g hn hf hp hm hin hfree
  go_enter Try.func41, Try.ntmps41
  go_wp2_with (first
    | (go_at_call 76; (with_reducible refine hL.mono ?_); rintro e w1 ⟨rfl, t1⟩; have c1 := hC.out _ t1; have cU := HU.out _ t1; have T1 := Lib.hid t1; clear t1)
    | (go_at_call 32; (with_reducible refine cU.mono ?_); rintro e w3 ⟨rfl, k, g3⟩; have G3 := Lib.hid g3; clear g3))
  go_ret2
  exact ⟨rfl, k, G3.out.1, (T1.out.mono (fun _ h => h.elim)).trans G3.out.2 (fun _ h => .inl h)⟩
end
end Go.Proofs.Ytdddmjdlikjedaa

/-
  What a space's parts are, and what each of them may be used for. No conditions but that the region is one that calls can make.
-/
namespace Go.Proofs.Ytdddmjdlikjedaa
open Go.ChangeShapes Go.WideShapes Go.ChangeAt Go.RowKit

/-- Whether a protection has what is needed: 1 to read, 2 to write. -/
def hasB (pr need : Int) : Bool := pr == 3 || pr == need
section
variable {K : Nat → Prop} {W w : World} {c s a : Nat} {size most : Int} {l : List Pc}
set_option maxRecDepth 20000 in
set_option maxHeartbeats 1000000 in
theorem parts_all (hc : SpAt w c s a) (g : GT K W a size most l w) (hs : size ≤ 65536) (x n need : Int) (hx : 0 ≤ x) (hn : 0 ≤ n) (hxn : x + n ≤ size) (hneed : need = 1 ∨ need = 2) (hm : ∀ y, x ≤ y → y < x + n → ¬ Free l y) :
    Calls Try.prog 77 #[.pointer (some ⟨c, 0, none⟩), .int .i64 x, .int .i64 n, .int .i64 need] w fun e w' =>
      (∃ pv li N cv, e = .returned (.tuple #[.slice pv N cv, .int .i64 0]) ∧ N = li.length ∧ SpM l x n li ∧ (∀ q ∈ li, hasB q.prot need = true) ∧ PRow (.slice pv N cv) li w' ∧ (∀ j, Blk (.slice pv N cv) j → w.heap.size ≤ j) ∧ Turn NoBlock w w') ∨
      (e = .returned (.tuple #[.slice none 0 0, .int .i64 (-30)]) ∧ (∃ li, SpM l x n li ∧ ∃ q ∈ li, hasB q.prot need = false) ∧ Turn NoBlock w w') := by
  have cS := (g.span hs x n hx hn hxn hm).mono (R' := fun e w' => ∃ (pv : Option Addr) (li : List Pc) (N cv : Nat), e = .returned (.tuple #[.slice pv N cv, .int .i64 0]) ∧ N = li.length ∧ N ≤ 4096 ∧ Hid (SpM l x n li ∧ PRow (.slice pv N cv) li w' ∧ Turn NoBlock w w' ∧ ∀ j, Blk (.slice pv N cv) j → w.heap.size ≤ j)) (by
    rintro e w' ⟨vi, h1, li, h2, h3, h4, h5⟩
    obtain ⟨pi, ci, hv⟩ := h3.slice
    subst hv
    have := gok_len g.ok
    have := h2.len
    exact ⟨pi, li, _, ci, h1, rfl, by omega, Lib.hid ⟨h2, h3, h5, h4⟩⟩)
  have hpr : ∀ li, SpM l x n li → ∀ q ∈ li, q.prot = 0 ∨ q.prot = 1 ∨ q.prot = 2 ∨ q.prot = 3 := fun li h q hq => by
    obtain ⟨_, _, _, p, hp, _, _, hk⟩ := h.ins q hq
    have := (g.ok.each p hp).2
    unfold Pc.key at hk
    simp only [Prod.mk.injEq] at hk
    omega
  have c1 := hc.c1
  have HPR := Lib.hid hpr
  clear hc g hm hpr
  go_enter Try.func77, Try.ntmps77
  go_wp2_with (go_at_call 97; (with_reducible refine cS.mono ?_); rintro e w1 ⟨pv, li, N, cv, rfl, hN, hN2, HS⟩; have HN := Lib.hid hN; clear hN)
  go_loopg [29] N (fun g s29 wr => ∃ k : Nat, k ≤ N ∧ g = N - k ∧ s29 = .int .i64 k ∧ Hid (Turn NoBlock w1 wr ∧ ∀ j q, j < k → li[j]? = some q → hasB q.prot need = true))
  case atStart => exact ⟨0, by omega, by omega, rfl, Lib.hid ⟨Turn.refl _ _, fun j q hj => by omega⟩⟩
  case round =>
    obtain ⟨k, hk, hg, rfl, HT⟩ := hrel
    by_cases hlt : k < N
    · obtain ⟨q, hq⟩ := gget_some (show k < li.length by rw [← HN.out]; exact hlt)
      have hr1 := HS.out.2.1.past HT.out.1
      obtain ⟨g, c', he, -, -⟩ := hr1.shape (by rw [← HN.out]; omega)
      simp only [Value.slice.injEq] at he
      obtain ⟨rfl, -, rfl⟩ := he
      obtain ⟨c0, c1, c2, c3, c4⟩ := hr1.five hq
      have hp := HPR.out li HS.out.1 q (List.mem_of_getElem? hq)
      have HQ := Lib.hid hq
      obtain ⟨qa, ql, qv, qf, qr⟩ := q
      simp only at c0 c1 c2 c3 c4 hp
      have hyes : hasB qr need = true → ∀ j (q : Pc), j < k + 1 → li[j]? = some q → hasB q.prot need = true := fun hb j q hj hq2 => by
        rcases Nat.lt_or_ge j k with h | h
        · exact HT.out.2 j q h hq2
        · obtain rfl : j = k := by omega
          rw [HQ.out] at hq2
          cases hq2
          exact hb
      have HY := Lib.hid hyes
      have hno : hasB qr need = false → ∃ li, SpM l x n li ∧ ∃ q ∈ li, hasB q.prot need = false := fun hb => ⟨li, HS.out.1, _, List.mem_of_getElem? HQ.out, hb⟩
      have HNo := Lib.hid hno
      clear hr1 hq hyes hno
      rcases hneed with rfl | rfl <;> rcases hp with rfl | rfl | rfl | rfl
      all_goals
        go_wp2
        first
          | (go_roundg (N - (k + 1))
             case measure => omega
             case rel => exact ⟨k + 1, by omega, by omega, by go_num, Lib.hid ⟨HT.out.1.alloc _, HY.out rfl⟩⟩)
          | (go_ret2
             exact .inr ⟨rfl, HNo.out rfl, HS.out.2.2.1.trans (HT.out.1.alloc _) (fun _ h => .inl h)⟩)
    · obtain rfl : k = N := by omega
      go_wp2
      go_ret2
      refine .inl ⟨_, li, _, _, rfl, HN.out, HS.out.1, fun q hq => ?_, HS.out.2.1.past HT.out.1, HS.out.2.2.2, HS.out.2.2.1.trans HT.out.1 (fun _ h => .inl h)⟩
      obtain ⟨j, hj⟩ := List.getElem?_of_mem hq
      exact HT.out.2 j q (by rw [HN.out]; exact (List.getElem?_eq_some_iff.1 hj).1) hj
end
end Go.Proofs.Ytdddmjdlikjedaa

/-
  What Read of a space answers. No conditions but those that are named: what is told of each part.
-/
namespace Go.Proofs.Ytdddmjdlikjedaa
open Go.ChangeShapes Go.WideShapes Go.ChangeAt Go.RowKit

/-- What the loop of Read holds. -/
structure SRIn (w wr : World) (f : Pc → List UInt8) (v : Value) (li : List Pc) (u : Value) (acc : List UInt8) (k : Nat) : Prop where
  row : PRow v li wr
  own : Byts u acc wr
  eq : acc = (li.take k).flatMap f
  turn : Turn NoBlock w wr
  fresh : ∀ j, Blk u j → w.heap.size ≤ j
theorem SRIn.push {w wr wx w1 : World} {f : Pc → List UInt8} {v u : Value} {li : List Pc} {acc : List UInt8} {k : Nat} {q : Pc} (h : SRIn w wr f v li u acc k) (t : Turn NoBlock wr wx) (hp : li[k]? = some q) (hv : ∀ j, Blk v j → ¬ Blk u j) {g c N : Nat} (hN : acc.length = N)
    (hown : w1.ownsRow 0 5 1 (.slice (some ⟨g, 0, none⟩) (N + (f q).length) c) (N + (f q).length) (bcells acc ++ bcells (f q))) (hgrow : wx.grownBy w1 u.ownBlock) (hat : u.ownBlock = some g ∨ g = wx.heap.size) :
    SRIn w w1 f v li (.slice (some ⟨g, 0, none⟩) (N + (f q).length) c) (acc ++ f q) (k + 1) := by
  have hx : Turn (Blk u) wr w1 := ((t.mono (G := Blk u) (fun _ h => h.elim))).grown hgrow (fun j hj => .inl hj)
  refine ⟨(own_prow v li).kept _ _ _ h.row hx hv, ?_, ?_, h.turn.trans hx (fun j hj => .inr (h.fresh j hj)), fun j hj => ?_⟩
  · unfold Byts
    rw [List.length_append, hN]
    have e : bcells (acc ++ f q) = bcells acc ++ bcells (f q) := by simp [bcells]
    rw [e]
    exact hown
  · obtain ⟨hlt, he⟩ := List.getElem?_eq_some_iff.1 hp
    rw [List.take_succ_eq_append_getElem hlt, List.flatMap_append, he, h.eq]
    simp
  · simp [Blk, Value.ownBlock] at hj
    subst hj
    rcases hat with e | e
    · exact h.fresh _ e
    · have := h.turn.size
      have := t.size
      omega

set_option maxRecDepth 20000 in
set_option maxHeartbeats 4000000 in
theorem zread_ok {w : World} {c s a : Nat} (hc : SpAt w c s a) (x : Int) (n : Nat) (hn : n ≤ 4096) (A : List Pc → Prop) (f : Pc → List UInt8)
    (cP : Calls Try.prog 77 #[.pointer (some ⟨c, 0, none⟩), .int .i64 x, .int .i64 (n : Int), .int .i64 1] w fun e w' => ∃ (pv : Option Addr) (li : List Pc) (N cv : Nat), e = .returned (.tuple #[.slice pv N cv, .int .i64 0]) ∧ N = li.length ∧ A li ∧ PRow (.slice pv N cv) li w' ∧ Turn NoBlock w w')
    (hA : ∀ li, A li → li.length ≤ 4096 ∧ ∀ q ∈ li, 0 < q.len ∧ q.len ≤ 4096 ∧ (f q).length = q.len.toNat ∧
      ∀ W', Turn NoBlock w W' → Calls Try.prog 18 #[.pointer (some ⟨s, 0, none⟩), .int .i64 q.vmo, .int .i64 q.from', .int .i64 q.len] W' fun e w' => ∃ u, e = .returned (.tuple #[u, .int .i64 0]) ∧ Byts u (f q) w' ∧ (∀ j, Blk u j → W'.heap.size ≤ j) ∧ Turn NoBlock W' w') :
    Calls Try.prog 43 #[.pointer (some ⟨c, 0, none⟩), .int .i64 x, .int .i64 (n : Int)] w fun e w' => ∃ u, e = .returned (.tuple #[u, .int .i64 0]) ∧ ∃ li, A li ∧ Byts u (li.flatMap f) w' ∧ (∀ j, Blk u j → w.heap.size ≤ j) ∧ Turn NoBlock w w' := by
  obtain ⟨iv, hi5, hz0, hz1, hz2⟩ := info_parts info5
  have q1 : iv.bytes * n ≤ 281474976710656 := by rw [hz2]; omega
  have q2 : n ≤ maxLen := by unfold maxLen; omega
  have hn0 : ¬ (n : Int) < 0 := by omega
  have hn1 : ¬ (4096 : Int) < (n : Int) := by omega
  have HC := Lib.hid (fun w' (t : Turn NoBlock w w') => (hc.past t id).c0)
  have HA := Lib.hid hA
  clear hc hA
  go_enter Try.func43, Try.ntmps43
  go_wp2_with (first
    | (go_at_call 77; (with_reducible refine cP.mono ?_); rintro e w1 ⟨pv, li, N, cv, rfl, hN, hAl, hrow, t1⟩; have HN := Lib.hid hN; have HL := Lib.hid (And.intro hAl (And.intro hrow t1)); have hN4 : N ≤ 4096 := (by have := (HA.out li hAl).1; omega); clear hN hAl hrow t1)
    | (at_make; refine wpList_make_own _ rfl _ _ 22 rfl 0 5 iv _ 1 bytes31 hi5 hz0 hz1 .i64 .i64 _ n rfl rfl rfl q1 q2 (Nat.zero_le _) ?_; intro w4 hown hgrow; have T4 : Turn NoBlock w w4 := HL.out.2.2.grown hgrow (fun k e => by cases e); have K4 := Lib.hid (And.intro hown (And.intro hgrow T4)); clear hown hgrow T4))
  go_loopg [10, 35] N (fun g s10 s35 wr => ∃ (k : Nat) (acc : List UInt8) (gu : Option Addr) (M cu : Nat), g = N - k ∧ k ≤ N ∧ s10 = .slice gu M cu ∧ s35 = .int .i64 k ∧ M ≤ 4096 * k ∧ Hid (SRIn w wr f (.slice pv N cv) li (.slice gu M cu) acc k ∧ acc.length = M))
  case atStart =>
    obtain ⟨k1, k2, k3⟩ := K4.out
    obtain ⟨-, k4, k5⟩ := HL.out
    refine ⟨0, [], _, 0, n, rfl, by omega, rfl, rfl, by omega, Lib.hid ⟨⟨?_, k1, rfl, k3, fun j hj => ?_⟩, rfl⟩⟩
    · exact k4.past ((Turn.refl NoBlock _).grown k2 (fun k e => by cases e))
    · simp [Blk, Value.ownBlock] at hj
      have := k5.size
      omega
  case round =>
    obtain ⟨k, acc, gu, M, cu, hg, hk, rfl, rfl, hM, HR⟩ := hrel
    by_cases hlt : k < N
    · obtain ⟨q, hq⟩ := gget_some (show k < li.length by rw [← HN.out]; exact hlt)
      have hr1 := HR.out.1.row
      obtain ⟨g, c', he, -, -⟩ := hr1.shape (by rw [← HN.out]; omega)
      simp only [Value.slice.injEq] at he
      obtain ⟨rfl, -, rfl⟩ := he
      obtain ⟨c0, c1, c2, c3, c4⟩ := hr1.five hq
      obtain ⟨ql0, ql1, hfl, cR0⟩ := (HA.out li HL.out.1).2 q (List.mem_of_getElem? hq)
      have HS := Lib.hid (fun w5 (t : Turn NoBlock w w5) => HC.out _ t)
      have hvu : ∀ j, Blk (.slice (some ⟨g, 0, none⟩) N cv) j → ¬ Blk (.slice gu M cu) j := fun j h1 h2 => ne_own2 HR.out.1.row HR.out.1.own (by decide) h1 h2
      have HO := Lib.hid (fun w5 (t5 : Turn NoBlock wr w5) => show w5.ownsRow 0 5 1 (.slice gu M cu) M (bcells acc) from by
        have := t5.own HR.out.1.own (fun _ _ h => h)
        rwa [HR.out.2] at this)
      have HPs := Lib.hid (fun (wx w1 : World) (t : Turn NoBlock wr wx) g c (hown : w1.ownsRow 0 5 1 (.slice (some ⟨g, 0, none⟩) (M + (f q).length) c) (M + (f q).length) (bcells acc ++ bcells (f q))) hgrow hat =>
        SRIn.push (w1 := w1) (g := g) (c := c) HR.out.1 t hq hvu HR.out.2 hown hgrow hat)
      obtain ⟨bs, hbs⟩ : ∃ bs, bs = f q := ⟨_, rfl⟩
      rw [← hbs] at HPs hfl cR0
      have HBS := Lib.hid hbs
      obtain ⟨L, hL⟩ : ∃ L : Nat, q.len = (L : Int) := ⟨q.len.toNat, by omega⟩
      have hL2 : bs.length = L := by omega
      have hL3 : 0 < L ∧ L ≤ 4096 := by omega
      rw [hL2] at HPs
      have q3 : M + L ≤ maxLen := by unfold maxLen; omega
      have q4 : (M + L) * 1 ≤ 140737488355328 := by omega
      have HB2 := Lib.hid (And.intro hL2 hL3.1)
      have HQ := Lib.hid (And.intro q3 q4)
      have HM := Lib.hid (And.intro hM hL3)
      obtain ⟨qa, ql, qv, qf, qr⟩ := q
      simp only at c0 c1 c2 c3 c4 hL cR0
      subst hL
      clear hvu hfl hq hr1 q3 q4 hbs hL2 hL3 ql0 ql1 hM
      go_wp2_with (fail)
      obtain ⟨W2, hW2⟩ : ∃ W2, W2 = wr.alloc (.cells #[.int .i64 qa, .int .i64 (L : Int), .int .i64 qv, .int .i64 qf, .int .i64 qr] 61) := ⟨_, rfl⟩
      have tW : Turn NoBlock wr W2 := by rw [hW2]; exact (Turn.refl _ _).alloc _
      have hbx : W2.heap[wr.heap.size]? = some (.cells #[.int .i64 qa, .int .i64 (L : Int), .int .i64 qv, .int .i64 qf, .int .i64 qr] 61 (0, 0)) := by rw [hW2]; exact heap_alloc_new wr _
      have x0 := HS.out _ (HR.out.1.turn.trans tW (fun _ h => .inl h))
      have x1 := cell_at hbx 1
      have x2 := cell_at hbx 2
      have x3 := cell_at hbx 3
      simp at x1 x2 x3
      have cR2 := cR0 W2.drew (HR.out.1.turn.trans tW.drew (fun _ h => .inl h))
      have HTW := Lib.hid (And.intro tW.drew (show W2.drew.heap[wr.heap.size]? = _ from hbx))
      rw [← hW2]
      clear hW2 tW hbx cR0
      go_region_held3 (fun w' => w'.cell? ⟨c, 0, none⟩ = some (.pointer (some ⟨s, 0, none⟩)) ∧ w'.cell? ⟨wr.heap.size, 1, none⟩ = some (.int .i64 (L : Int)) ∧ w'.cell? ⟨wr.heap.size, 2, none⟩ = some (.int .i64 qv) ∧ w'.cell? ⟨wr.heap.size, 3, none⟩ = some (.int .i64 qf)) ((refine ⟨?_, ?_, ?_, ?_⟩ <;> (first | assumption)))
        (first
          | (go_at_call 18; (with_reducible refine cR2.mono ?_); rintro e w5 ⟨v5, rfl, hb5, hf5, t5⟩; obtain ⟨g5, c5, rfl, hg5, hn5⟩ := byts_news hb5 HB2.out.1 HB2.out.2; have KT := Lib.hid t5; have KB := Lib.hid (And.intro hb5 hn5); have y0 := HS.out _ ((HR.out.1.turn.trans HTW.out.1 (fun _ h => .inl h)).trans t5 (fun _ h => .inl h)); have hbx := t5.heap HTW.out.2 (fun h => h); have y1 := cell_at hbx 1; have y2 := cell_at hbx 2; have y3 := cell_at hbx 3; simp at y1 y2 y3; clear t5 hb5 hf5 hn5 hbx))
      have HT6 := Lib.hid (HTW.out.1.trans KT.out (fun _ h => .inl h))
      go_wp2_with (at_builtin; refine wpList_append_lies _ rfl (.tmp 56) (.tmp 57) 22 rfl 0 5 iv _ 1 1 bytes31 hi5 hz0 hz1 hz2 rfl (by decide) (.slice gu M cu) M (bcells acc) rfl (HO.out _ HT6.out) ⟨g5, 0, none⟩ L c5 (bcells bs) rfl (by rw [bcells_len, HB2.out.1, Nat.mul_one]) KB.out.2 (bcells_one _) HB2.out.2 HQ.out.1 HQ.out.2 (Nat.zero_le _) _ rfl ?_; intro g6 c6 w6 hown hgrow hat hlt6; have K6 := Lib.hid (HPs.out _ w6 HT6.out g6 c6 hown hgrow hat); clear hown hgrow hat)
      go_roundg (N - (k + 1))
      case measure => omega
      case rel => exact ⟨k + 1, acc ++ bs, _, M + L, c6, rfl, by omega, rfl, by go_num, by have := HM.out; omega, Lib.hid ⟨K6.out, by rw [List.length_append, HR.out.2, HB2.out.1]⟩⟩
    · obtain rfl : k = N := by omega
      go_wp2
      go_ret2
      obtain ⟨h1, h2⟩ := HR.out
      have e := h1.eq
      rw [List.take_of_length_le (by rw [HN.out]; exact Nat.le_refl _)] at e
      exact ⟨_, rfl, li, HL.out.1, e ▸ h1.own, h1.fresh, h1.turn⟩
end Go.Proofs.Ytdddmjdlikjedaa

/-
  What Write of a space answers where all may be written and all is one object's. No conditions but that the set and the region are ones that calls can make.
-/
namespace Go.Proofs.Ytdddmjdlikjedaa
open Go.ChangeShapes Go.WideShapes Go.ChangeAt Go.RowKit

theorem zslice (B off len cap lo L : Nat) (h : lo + L ≤ cap) (hL : 0 < L) : ∀ w, Sem.run Try.prog (Instr.slice 22 (.slice (some ⟨B, off, none⟩) len cap) (some (.int .i64 (lo : Int))) (some (.int .i64 ((lo : Int) + (L : Int)))) none) w = .ok (.slice (some ⟨B, off + lo, none⟩) L (cap - lo)) w := fun w => by
  have ht : Try.prog.underlying 22 = some (.slice (Try.prog.elem 22)) := by kernel_rfl
  have hsz : ∀ w, (sizeOf (Try.prog.elem 22)).run Try.prog w = .ok 1 w := fun w => by kernel_rfl
  have := run_slice_lh (P := Try.prog) w 22 (some ⟨B, off, none⟩) len cap ht .i64 .i64 (lo : Int) ((lo : Int) + (L : Int)) (by omega) (by omega) (by omega)
  rw [hsz] at this
  have e2 : ((lo : Int) + (L : Int)).toNat = lo + L := by omega
  simp only [Result.andThen, Int.toNat_natCast, e2] at this
  rw [this]
  have h0 : ¬ cap = lo := by omega
  simp [sliced, h0, Addr.add]
  try omega
/-- What stands in an object when the parts of li were written, up to k of them. -/
def wrK (C : Nat → UInt8) (li : List Pc) (bs : List UInt8) : Nat → Nat → UInt8
  | 0 => C
  | k + 1 => match li[k]? with
    | some q => layC (wrK C li bs k) q.from'.toNat ((bs.drop (sumP (li.take k)).toNat).take q.len.toNat)
    | none => wrK C li bs k
theorem wrK_succ {C : Nat → UInt8} {li : List Pc} {bs : List UInt8} {k : Nat} {q : Pc} (h : li[k]? = some q) : wrK C li bs (k + 1) = layC (wrK C li bs k) q.from'.toNat ((bs.drop (sumP (li.take k)).toNat).take q.len.toNat) := by
  show (match li[k]? with | some q => _ | none => _) = _
  rw [h]
/-- Some of the bytes in the midst. -/
theorem SrcF.mid {W : World} {s : Nat} {r : Rep} {B off c lo L : Nat} {bs : List UInt8} (h : SrcF W s r (.slice (some ⟨B, off, none⟩) bs.length c) bs) (hlo : lo + L ≤ bs.length) (hL : 0 < L) : SrcF W s r (.slice (some ⟨B, off + lo, none⟩) L (c - lo)) ((bs.drop lo).take L) ∧ lo + L ≤ c := by
  rcases h with ⟨p, c', h1, rfl⟩ | ⟨b, off', c', h1, h2, h3, h4, h5⟩
  · simp at hlo
    omega
  · simp only [Value.slice.injEq, Option.some.injEq, Addr.mk.injEq] at h1
    obtain ⟨⟨rfl, rfl, -⟩, -, rfl⟩ := h1
    have hl : ((bs.drop lo).take L).length = L := by rw [List.length_take, List.length_drop]; omega
    refine ⟨.inr ⟨B, off + lo, c - lo, by rw [hl], by rw [hl]; omega, h3, h4, fun j hj => ?_⟩, by omega⟩
    rw [hl] at hj
    have := h5 (lo + j) (by omega)
    rw [← Nat.add_assoc] at this
    rw [this]
    simp only [List.getD_eq_getElem?_getD]
    rw [List.getElem?_take, if_pos hj, List.getElem?_drop]
/-- What the loop of Write holds. -/
structure ZIn (w wr : World) (c s a : Nat) (r : Rep) (U P R : Nat) (C : Nat → UInt8) (v : Value) (li : List Pc) (bs : List UInt8) (b : Value) (lo k : Nat) : Prop where
  row : PRow v li wr
  sp : SpAt wr c s a
  src : ∃ r' M' o', SMem wr s r' M' ∧ So M' U (wrK C li bs k) o' (R - k * P) ∧ VNext w s r wr r' ∧ SrcF wr s r' b bs ∧ ∀ j, Blk v j → ¬ SFoot s r' j
  lo : lo = (sumP (li.take k)).toNat
theorem VNext.of {w w' : World} (t : Turn NoBlock w w') (r : Rep) (s : Nat) : VNext w s r w' r := ⟨t.mono (fun _ h => h.elim), fun _ h => .inl h⟩

theorem zin_foot {w wr : World} {s c : Nat} {r r' : Rep} (h : VNext w s r wr r') (hc : ¬ SFoot s r c) (hcl : c < w.heap.size) : ¬ SFoot s r' c := fun e => by
  rcases h.foot c e with e | e
  · exact hc e
  · omega
set_option maxRecDepth 20000 in
set_option maxHeartbeats 4000000 in
theorem zwrite_ok {w : World} {c s a : Nat} {r : Rep} {M : Mod} {U P R : Nat} {C : Nat → UInt8} {o : Ob} (hc : SpAt w c s a) (hm : SMem w s r M) (z : So M U C o R) (hcf : ¬ SFoot s r c) (hU : U ≤ 65536) (x : Int) (B off cb : Nat) (pb : Option Addr) (bs : List UInt8) (hpb : 0 < bs.length → pb = some ⟨B, off, none⟩) (hv : SrcF w s r (.slice pb bs.length cb) bs) (hl : bs.length ≤ 4096) (A : List Pc → Prop)
    (cP : Calls Try.prog 77 #[.pointer (some ⟨c, 0, none⟩), .int .i64 x, .int .i64 (bs.length : Int), .int .i64 2] w fun e w' => ∃ (pv : Option Addr) (li : List Pc) (N cv : Nat), e = .returned (.tuple #[.slice pv N cv, .int .i64 0]) ∧ N = li.length ∧ A li ∧ PRow (.slice pv N cv) li w' ∧ (∀ j, Blk (.slice pv N cv) j → w.heap.size ≤ j) ∧ Turn NoBlock w w')
    (hA : ∀ li, A li → li.length ≤ 16 ∧ sumP li = (bs.length : Int) ∧ li.length * P ≤ R ∧ ∀ q ∈ li, q.vmo = 1 ∧ 0 < q.len ∧ 0 ≤ q.from' ∧ q.from' + q.len ≤ U ∧ q.from' % 64 + q.len < 64 * (P : Int) + 1) :
    Calls Try.prog 42 #[.pointer (some ⟨c, 0, none⟩), .int .i64 x, .slice pb bs.length cb] w fun e w' => e = .returned (.tuple #[.int .i64 (bs.length : Int), .int .i64 0]) ∧ ∃ li r' M' o', A li ∧ SMem w' s r' M' ∧ So M' U (wrK C li bs li.length) o' (R - li.length * P) ∧ VNext w s r w' r' ∧ SpAt w' c s a := by
  have hcl := lt_of_block hc
  have hn1 : ¬ (4096 : Int) < (bs.length : Int) := by omega
  have HI := Lib.hid (And.intro hc (And.intro hm (And.intro z hv)))
  have HA := Lib.hid hA
  have HF := Lib.hid (And.intro hcf hcl)
  have HB := Lib.hid hpb
  obtain ⟨BL, hBL⟩ : ∃ BL, BL = bs.length := ⟨_, rfl⟩
  rw [← hBL] at cP hl hn1 ⊢
  have HBL := Lib.hid hBL
  clear hc hm z hv hA hcf hcl hBL hpb
  go_enter Try.func42, Try.ntmps42
  go_wp2_with (first
    | (go_at_call 77; (with_reducible refine cP.mono ?_); rintro e w1 ⟨pv, li, N, cv, rfl, hN, hAl, hrow, hfr, t1⟩; have HN := Lib.hid hN; have HL := Lib.hid (And.intro hAl (And.intro hrow (And.intro hfr t1))); have hN4 : N ≤ 16 := (by have := (HA.out li hAl).1; omega); clear hN hAl hrow hfr t1))
  go_loopg [10, 30] N (fun g s10 s30 wr => ∃ (k lo : Nat), g = N - k ∧ k ≤ N ∧ s10 = .int .i64 (lo : Int) ∧ s30 = .int .i64 k ∧ lo ≤ BL ∧ Hid (ZIn w wr c s a r U P R C (.slice pv N cv) li bs (.slice pb bs.length cb) lo k))
  case atStart =>
    obtain ⟨-, k4, k6, k5⟩ := HL.out
    obtain ⟨i1, i2, i3, i4⟩ := HI.out
    refine ⟨0, 0, rfl, by omega, rfl, rfl, by omega, Lib.hid ⟨k4, i1.past k5 id, ⟨r, M, o, i2.past k5, by rw [Nat.zero_mul, Nat.sub_zero]; exact i3, VNext.of k5 r s, i4.next (VNext.of k5 r s), fun j hj e => by have := i2.lt e; have := k6 j hj; omega⟩, rfl⟩⟩
  case round =>
    obtain ⟨k, lo, hg, hk, rfl, rfl, hlo, HR⟩ := hrel
    by_cases hlt : k < N
    · obtain ⟨q, hq⟩ := gget_some (show k < li.length by rw [← HN.out]; exact hlt)
      have hr1 := HR.out.row
      obtain ⟨g, c', he, -, -⟩ := hr1.shape (by rw [← HN.out]; omega)
      simp only [Value.slice.injEq] at he
      obtain ⟨rfl, -, rfl⟩ := he
      obtain ⟨c0, c1, c2, c3, c4⟩ := hr1.five hq
      obtain ⟨hA1, hA2, hA3, hA4⟩ := HA.out li HL.out.1
      obtain ⟨hv1, hq1, hq2, hq3, hq4⟩ := hA4 q (List.mem_of_getElem? hq)
      have hst := sumP_take li hq
      have hlo2 := HR.out.lo
      have hb1 := sumP_low (l := li) (fun p hp => by have := (hA4 p hp).2.1; omega) k
      have hb2 := sumP_low (l := li) (fun p hp => by have := (hA4 p hp).2.1; omega) (k + 1)
      have hBLe := HBL.out
      obtain ⟨L, hL⟩ : ∃ L : Nat, q.len = (L : Int) := ⟨q.len.toNat, by omega⟩
      obtain ⟨T, hT⟩ : ∃ T : Nat, q.from' = (T : Int) := ⟨q.from'.toNat, by omega⟩
      have hloL : lo + L ≤ bs.length := by omega
      have hL0 : 0 < L := by omega
      have hpb := HB.out (by omega)
      subst hpb
      obtain ⟨r', M', o', m1, m2, m3, m4, m5⟩ := HR.out.src
      obtain ⟨sr, hcb⟩ := m4.mid hloL hL0
      have hrun := zslice B off BL cb lo L (by omega) hL0
      have hbl : ((bs.drop lo).take L).length = L := by rw [List.length_take, List.length_drop]; omega
      have hkP : (k + 1) * P ≤ R := Nat.le_trans (Nat.mul_le_mul_right P (by rw [← HN.out]; omega)) hA3
      have hkP2 : (k + 1) * P = k * P + P := Nat.succ_mul k P
      have hlo3 : lo + L = (sumP (li.take (k + 1))).toNat := by omega
      have hgs : g < wr.heap.size := World.block_lt_of_cell? wr _ c0
      have HST := Lib.hid (fun (W' : World) (t : Turn NoBlock wr W') (ht8 : W'.heap[wr.heap.size]? = some (.cells #[.int .i64 q.at', .int .i64 (L : Int), .int .i64 q.vmo, .int .i64 (T : Int), .int .i64 q.prot] 61 (0, 0))) => show Calls Try.prog 17 #[.pointer (some ⟨s, 0, none⟩), .int .i64 1, .int .i64 (T : Int), .slice (some ⟨B, off + lo, none⟩) L (cb - lo)] W' fun e w5 => e = .returned (.int .i64 0) ∧ w5.cell? ⟨c, 0, none⟩ = some (.pointer (some ⟨s, 0, none⟩)) ∧ w5.cell? ⟨wr.heap.size, 1, none⟩ = some (.int .i64 (L : Int)) ∧ w5.cell? ⟨wr.heap.size, 2, none⟩ = some (.int .i64 q.vmo) ∧ w5.cell? ⟨wr.heap.size, 3, none⟩ = some (.int .i64 (T : Int)) ∧ wr.heap.size < w5.heap.size ∧ Hid (ZIn w w5 c s a r U P R C (.slice (some ⟨g, 0, none⟩) N cv) li bs (.slice (some ⟨B, off, none⟩) bs.length cb) (lo + L) (k + 1)) from by
        refine (so_write (m1.past t) m2 T _ ((bs.drop lo).take L) (sr.next (VNext.of t r' s)) (by omega) (by omega) (by omega) P (by omega) (by omega)).mono ?_
        rintro e w5 ⟨rfl, r2, M2, o2, ⟨n1, n2⟩, n3⟩
        have hnc : ¬ SFoot s r' c := zin_foot m3 HF.out.1 HF.out.2
        have hn8 : ¬ SFoot s r' wr.heap.size := fun e => Nat.lt_irrefl _ (m1.lt e)
        have hb8 := n3.turn.heap ht8 hn8
        have y1 := cell_at hb8 1
        have y2 := cell_at hb8 2
        have y3 := cell_at hb8 3
        simp at y1 y2 y3
        have hsp := (HR.out.sp.past t id).past n3.turn hnc
        have hvn : VNext w s r w5 r2 := (m3.past t).trans n3
        refine ⟨rfl, hsp.c0, y1, y2, y3, lt_of_block hb8, Lib.hid ⟨(own_prow _ li).kept _ _ _ (HR.out.row.past t) n3.turn (fun j hj => m5 j hj), hsp, ⟨r2, M2, o2, n1, ?_, hvn, (m4.next (VNext.of t r' s)).next n3, fun j hj e => ?_⟩, hlo3⟩⟩
        · rw [wrK_succ hq, hT, hL]
          have e1 : R - k * P - P = R - (k + 1) * P := by omega
          rw [← e1, ← hlo2]
          exact n2
        · rcases n3.foot j e with e | e
          · exact m5 j hj e
          · simp [Blk, Value.ownBlock] at hj
            have := t.size
            omega)
      have HSP := Lib.hid (fun W' (t : Turn NoBlock wr W') => (HR.out.sp.past t id).c0)
      have hwl : IntKind.i64.wrap ((lo : Int) + (L : Int)) = (lo : Int) + (L : Int) := wrap_fit (by unfold fit; omega)
      have hloL2 : lo + L ≤ BL := by omega
      clear hA1 hA2 hA3 hA4 hq1 hq2 hq3 hq4 hst hlo2 hb1 hb2 hloL hL0 m1 m2 m3 m4 m5 sr hcb hbl hkP hkP2 hlo3 hr1 hq hBLe
      obtain ⟨qa, ql, qv, qf, qr⟩ := q
      simp only at c0 c1 c2 c3 c4 hL hT hv1 HST
      subst hL hT hv1
      go_wp2_with (fail)
      obtain ⟨W2, hW2⟩ : ∃ W2, W2 = wr.alloc (.cells #[.int .i64 qa, .int .i64 (L : Int), .int .i64 1, .int .i64 (T : Int), .int .i64 qr] 61) := ⟨_, rfl⟩
      have tW : Turn NoBlock wr W2 := by rw [hW2]; exact (Turn.refl _ _).alloc _
      have hbx : W2.heap[wr.heap.size]? = some (.cells #[.int .i64 qa, .int .i64 (L : Int), .int .i64 1, .int .i64 (T : Int), .int .i64 qr] 61 (0, 0)) := by rw [hW2]; exact heap_alloc_new wr _
      have x0 := HSP.out _ tW
      have x1 := cell_at hbx 1
      have x2 := cell_at hbx 2
      have x3 := cell_at hbx 3
      simp at x1 x2 x3
      have cR2 := HST.out W2.drew tW.drew hbx
      rw [← hW2]
      clear hW2 tW hbx
      go_region_held3 (fun w' => w'.cell? ⟨c, 0, none⟩ = some (.pointer (some ⟨s, 0, none⟩)) ∧ w'.cell? ⟨wr.heap.size, 1, none⟩ = some (.int .i64 (L : Int)) ∧ w'.cell? ⟨wr.heap.size, 2, none⟩ = some (.int .i64 1) ∧ w'.cell? ⟨wr.heap.size, 3, none⟩ = some (.int .i64 (T : Int))) ((refine ⟨?_, ?_, ?_, ?_⟩ <;> (first | assumption)))
        (first
          | (go_at_call 17; (with_reducible refine cR2.mono ?_); rintro e w5 ⟨rfl, y0, y1, y2, y3, y8, HZ⟩))
      go_wp2
      go_roundg (N - (k + 1))
      case measure => omega
      case rel => exact ⟨k + 1, lo + L, rfl, by omega, by go_num, by go_num, by omega, HZ⟩
    · obtain rfl : k = N := by omega
      obtain ⟨-, hA2, -⟩ := HA.out li HL.out.1
      have hlo2 := HR.out.lo
      rw [List.take_of_length_le (by rw [HN.out]; exact Nat.le_refl _)] at hlo2
      have hloB : lo = BL := by have := HBL.out; omega
      subst hloB
      go_wp2
      go_ret2
      obtain ⟨r', M', o', m1, m2, m3, _⟩ := HR.out.src
      have e1 := HN.out
      rw [e1] at m2
      exact ⟨rfl, li, r', M', o', HL.out.1, m1, m2, m3, HR.out.sp⟩
end Go.Proofs.Ytdddmjdlikjedaa

/-
  A space that a law has made, with its set and its region, and what each call makes of it. No conditions.
-/
namespace Go.Proofs.Ytdddmjdlikjedaa
open Go.ChangeShapes Go.WideShapes Go.ChangeAt Go.RowKit

section
variable {K K' F : Nat → Prop} {W w w' : World} {a : Nat} {size most : Int} {l : List Pc}
theorem GT.grow (h : GT K W a size most l w) (t : Turn F w w') (hF : ∀ j, F j → j < w.heap.size → K j ∧ W.heap.size ≤ j) (hK : ∀ j, K' j → K j ∨ w.heap.size ≤ j) (hb : ∀ j, K' j → j < w'.heap.size) : GT K' W a size most l w' := by
  obtain ⟨v, h1, h2⟩ := h.mem
  have h3 := h.kept t hF
  exact ⟨h.ok, ⟨v, h1.kept t (fun j hj e => (h2 j hj).2 (hF j e (h1.lt hj)).1), fun j hj => ⟨(h2 j hj).1, fun e => (hK j e).elim (h2 j hj).2 (fun hh => by have := h1.lt hj; omega)⟩⟩, hb, h3.turn⟩
end
/-- A set and a space over it that a law has made behind w0. -/
structure SpS (w0 : World) (c s a : Nat) (size most : Int) (r : Rep) (M : Mod) (l : List Pc) (w : World) : Prop where
  sp : SpAt w c s a
  mem : SMem w s r M
  gt : GT (fun j => j = c ∨ SFoot s r j) w0 a size most l w
  fresh : ∀ j, SFoot s r j → w0.heap.size ≤ j
  cf : ¬ SFoot s r c
  cw : w0.heap.size ≤ c
section
variable {w0 w w' : World} {c s a : Nat} {size most : Int} {r r' : Rep} {M M' : Mod} {l l' : List Pc}
theorem SpS.past (h : SpS w0 c s a size most r M l w) (t : Turn NoBlock w w') : SpS w0 c s a size most r M l w' :=
  ⟨h.sp.past t id, h.mem.past t, h.gt.past t, h.fresh, h.cf, h.cw⟩
theorem SpS.turn (h : SpS w0 c s a size most r M l w) : Turn NoBlock w0 w := h.gt.turn
theorem SpS.next (h : SpS w0 c s a size most r M l w) (m : SMem w' s r' M') (k : VNext w s r w' r') : SpS w0 c s a size most r' M' l w' := by
  have hc := lt_of_block h.sp
  refine ⟨h.sp.past k.turn h.cf, m, h.gt.grow k.turn (fun _ hj _ => ⟨.inr hj, h.fresh _ hj⟩) (fun j hj => ?_) (fun j hj => ?_), fun j hj => ?_, zin_foot k h.cf hc, h.cw⟩
  · rcases hj with hj | hj
    · exact .inl (.inl hj)
    · rcases k.foot j hj with e | e
      · exact .inl (.inr e)
      · exact .inr e
  · rcases hj with rfl | hj
    · exact Nat.lt_of_lt_of_le hc k.turn.size
    · exact m.lt hj
  · rcases k.foot j hj with e | e
    · exact h.fresh j e
    · exact Nat.le_trans h.turn.size e
theorem SpS.mapped (h : SpS w0 c s a size most r M l w) (g : GT (fun j => j = c ∨ SFoot s r j) w0 a size most l' w') (t : Turn (fun j => ¬ (j = c ∨ SFoot s r j) ∧ w0.heap.size ≤ j) w w') : SpS w0 c s a size most r M l' w' :=
  ⟨h.sp.past t (fun e => e.1 (.inl rfl)), h.mem.kept t (fun _ hj e => e.1 (.inr hj)), g, h.fresh, h.cf, h.cw⟩
/-- A space that is made over a set. -/
theorem sps_new (k : VSt w0 w s r M) (size most : Int) (h : 0 ≤ size ∧ size ≤ 4294967296) : SpS w0 (w.heap.size + 1) s w.heap.size size most r M [] ((w.alloc (.cells #[.int .i64 size, .int .i64 most, .slice none 0 0] 114)).alloc (.cells #[.pointer (some ⟨s, 0, none⟩), .pointer (some ⟨w.heap.size, 0, none⟩)] 125)) := by
  have g0 := gt_new (SFoot s r) w0 w k.turn size most h (fun j hj => k.mem.lt hj)
  have t1 : Turn NoBlock w (w.alloc (.cells #[.int .i64 size, .int .i64 most, .slice none 0 0] 114)) := (Turn.refl _ _).alloc _
  have t2 : Turn NoBlock (w.alloc (.cells #[.int .i64 size, .int .i64 most, .slice none 0 0] 114)) ((w.alloc (.cells #[.int .i64 size, .int .i64 most, .slice none 0 0] 114)).alloc (.cells #[.pointer (some ⟨s, 0, none⟩), .pointer (some ⟨w.heap.size, 0, none⟩)] 125)) := (Turn.refl _ _).alloc _
  have hb := heap_alloc_new (w.alloc (.cells #[.int .i64 size, .int .i64 most, .slice none 0 0] 114)) (.cells #[.pointer (some ⟨s, 0, none⟩), .pointer (some ⟨w.heap.size, 0, none⟩)] 125)
  rw [World.size_alloc] at hb
  refine ⟨hb, k.mem.past (t1.trans t2 (fun _ h => .inl h)), g0.grow t2 (fun _ hj _ => hj.elim) (fun j hj => ?_) (fun j hj => ?_), k.fresh, fun e => ?_, ?_⟩
  · rcases hj with rfl | hj
    · exact .inr (by rw [World.size_alloc]; exact Nat.le_refl _)
    · exact .inl hj
  · rw [World.size_alloc, World.size_alloc]
    rcases hj with rfl | hj
    · omega
    · have := k.mem.lt hj
      omega
  · have := k.mem.lt e
    omega
  · have := k.turn.size
    omega
end
section
variable {w0 w w' : World} {c s a : Nat} {size most : Int} {r r' : Rep} {M M' : Mod} {l l' : List Pc} {o : Ob}
/-- Lies, in a law's state. -/
theorem SpS.lies (h : SpS w0 c s a size most r M l w) (i f n : Int) (hi : fit i) (hf : fit f) (hn : fit n) (hO : M.O i = some o) (hd : o.drp = false) (hz : o.size ≤ 4294967296) :
    Calls Try.prog 76 #[.pointer (some ⟨c, 0, none⟩), .int .i64 i, .int .i64 f, .int .i64 n] w fun e w' => e = .returned (.int .i64 (lieS o f n)) ∧ Turn NoBlock w w' :=
  lies_any h.sp h.mem i f n hi hf hn hO hd hz
/-- Mapped where it is asked for. -/
theorem SpS.mapAt (h : SpS w0 c s a size most r M l w) (hs : size ≤ 65536) (hm : (l.length : Int) < most ∧ most ≤ 65536) (n i f p E : Int) (hi : fit i) (hn : isGrid E n) (hf : isMul f) (hp : isProt p) (hin : E + n ≤ size) (hfree : ∀ y, E ≤ y → y < E + n → Free l y) (hO : M.O i = some o) (hd : o.drp = false) (hz : o.size ≤ 4294967296) (hfo : f + n ≤ o.size) :
    Calls Try.prog 41 #[.pointer (some ⟨c, 0, none⟩), .int .i64 E, .int .i64 n, .int .i64 i, .int .i64 f, .int .i64 p] w fun e w' => e = .returned (.tuple #[.int .i64 E, .int .i64 0]) ∧ ∃ k, SpS w0 c s a size most r M (putL l k ⟨E, n, i, f, p⟩) w' := by
  have h0 : 0 ≤ E ∧ 0 < n ∧ 0 ≤ f := by unfold isGrid isMul at hn; unfold isMul at hf; omega
  have hL := h.lies i f n hi (by unfold fit; omega) (by unfold fit; omega) hO hd hz
  rw [show lieS o f n = 0 by unfold lieS; rw [if_neg (by omega), if_pos hfo]] at hL
  refine (map_at h.sp h.gt hs hm n i f p E hn ⟨hf, by omega⟩ hp hin hfree hL).mono ?_
  rintro e w' ⟨h1, k, h2, h3⟩
  exact ⟨h1, k, h.mapped h2 h3⟩
end
end Go.Proofs.Ytdddmjdlikjedaa

/-
  What Read and Write of a law's space answer, where all is one object's. No conditions.
-/
namespace Go.Proofs.Ytdddmjdlikjedaa
open Go.ChangeShapes Go.WideShapes Go.ChangeAt Go.RowKit

theorem So.less {M : Mod} {U R R' : Nat} {C : Nat → UInt8} {o : Ob} (z : So M U C o R) (h : R' ≤ R) : So M U C o R' :=
  ⟨z.at1, z.size, z.drp, z.dep, z.inv, z.made, by have := z.cnt; omega, z.flat, by have := z.room; omega⟩
set_option maxRecDepth 20000 in
theorem zread_no {w : World} {c : Nat} (x : Int) (n : Nat) (hn : n ≤ 4096) (cP : Calls Try.prog 77 #[.pointer (some ⟨c, 0, none⟩), .int .i64 x, .int .i64 (n : Int), .int .i64 1] w fun e w' => e = .returned (.tuple #[.slice none 0 0, .int .i64 (-30)]) ∧ Turn NoBlock w w') :
    Calls Try.prog 43 #[.pointer (some ⟨c, 0, none⟩), .int .i64 x, .int .i64 (n : Int)] w fun e w' => e = .returned (.tuple #[.slice none 0 0, .int .i64 (-30)]) ∧ Turn NoBlock w w' := by
  have hn0 : ¬ (n : Int) < 0 := by omega
  have hn1 : ¬ (4096 : Int) < (n : Int) := by omega
  go_enter Try.func43, Try.ntmps43
  go_wp2_with (go_at_call 77; (with_reducible refine cP.mono ?_); rintro e w1 ⟨rfl, t1⟩)
  go_ret2
  exact ⟨rfl, t1⟩
set_option maxRecDepth 20000 in
theorem zwrite_no {w : World} {c : Nat} (x : Int) (pb : Option Addr) (n cb : Nat) (hn : n ≤ 4096) (cP : Calls Try.prog 77 #[.pointer (some ⟨c, 0, none⟩), .int .i64 x, .int .i64 (n : Int), .int .i64 2] w fun e w' => e = .returned (.tuple #[.slice none 0 0, .int .i64 (-30)]) ∧ Turn NoBlock w w') :
    Calls Try.prog 42 #[.pointer (some ⟨c, 0, none⟩), .int .i64 x, .slice pb n cb] w fun e w' => e = .returned (.tuple #[.int .i64 0, .int .i64 (-30)]) ∧ Turn NoBlock w w' := by
  have hn1 : ¬ (4096 : Int) < (n : Int) := by omega
  go_enter Try.func42, Try.ntmps42
  go_wp2_with (go_at_call 77; (with_reducible refine cP.mono ?_); rintro e w1 ⟨rfl, t1⟩)
  go_ret2
  exact ⟨rfl, t1⟩

section
variable {w0 w w' : World} {c s a : Nat} {size most : Int} {r r' : Rep} {M M' : Mod} {l l' li : List Pc} {o : Ob} {U R : Nat} {C : Nat → UInt8} {x n : Int}
/-- A part's protection is that of the piece it is of. -/
theorem SpM.prot (h : SpM l x n li) {q : Pc} (hq : q ∈ li) : ∃ p ∈ l, p.at' < x + n ∧ x < p.fin ∧ q.prot = p.prot ∧ q.vmo = p.vmo ∧ q.from' - q.at' = p.from' - p.at' ∧ p.at' ≤ q.at' ∧ q.fin ≤ p.fin := by
  obtain ⟨h1, h2, h3, p, hp, h4, h5, h6⟩ := h.ins q hq
  unfold Pc.key at h6
  simp only [Prod.mk.injEq] at h6
  exact ⟨p, hp, by omega, by omega, h6.2.2, h6.1, h6.2.1, h4, h5⟩
theorem SpM.has (h : SpM l x n li) (ok : GOK size l) {p : Pc} (hp : p ∈ l) {y : Int} (h1 : x ≤ y) (h2 : y < x + n) (h3 : p.at' ≤ y) (h4 : y < p.fin) : ∃ q ∈ li, q.prot = p.prot := by
  obtain ⟨q, hq, b1, b2⟩ := h.cov y h1 h2
  obtain ⟨p', hp', _, _, e1, e2, e3, e4, e5⟩ := h.prot hq
  have hu := vw_uniq ok (⟨p, hp, h3, h4, rfl⟩ : Vw l y p.key) (⟨p', hp', by omega, by omega, rfl⟩ : Vw l y p'.key)
  unfold Pc.key at hu
  simp only [Prod.mk.injEq] at hu
  exact ⟨q, hq, by rw [e1, hu.2.2]⟩
/-- All parts have what is needed. -/
theorem SpS.partsYes (h : SpS w0 c s a size most r M l w) (hs : size ≤ 65536) (need : Int) (hneed : need = 1 ∨ need = 2) (hx : 0 ≤ x) (hn : 0 ≤ n) (hxn : x + n ≤ size) (hm : ∀ y, x ≤ y → y < x + n → ¬ Free l y) (hpr : ∀ p ∈ l, p.at' < x + n → x < p.fin → hasB p.prot need = true) :
    Calls Try.prog 77 #[.pointer (some ⟨c, 0, none⟩), .int .i64 x, .int .i64 n, .int .i64 need] w fun e w' => ∃ (pv : Option Addr) (li : List Pc) (N cv : Nat), e = .returned (.tuple #[.slice pv N cv, .int .i64 0]) ∧ N = li.length ∧ SpM l x n li ∧ PRow (.slice pv N cv) li w' ∧ (∀ j, Blk (.slice pv N cv) j → w.heap.size ≤ j) ∧ Turn NoBlock w w' := by
  refine (parts_all h.sp h.gt hs x n need hx hn hxn hneed hm).mono ?_
  rintro e w' (⟨pv, li, N, cv, h1, h2, h3, _, h5, h6, h7⟩ | ⟨_, ⟨li, h3, q, hq, hb⟩, _⟩)
  · exact ⟨pv, li, N, cv, h1, h2, h3, h5, h6, h7⟩
  · obtain ⟨p, hp, e1, e2, e3, _⟩ := h3.prot hq
    rw [e3, hpr p hp e1 e2] at hb
    cases hb
/-- Some part lacks what is needed. -/
theorem SpS.partsNo (h : SpS w0 c s a size most r M l w) (hs : size ≤ 65536) (need : Int) (hneed : need = 1 ∨ need = 2) (hx : 0 ≤ x) (hn : 0 ≤ n) (hxn : x + n ≤ size) (hm : ∀ y, x ≤ y → y < x + n → ¬ Free l y) (hpr : ∃ p ∈ l, ∃ y, x ≤ y ∧ y < x + n ∧ p.at' ≤ y ∧ y < p.fin ∧ hasB p.prot need = false) :
    Calls Try.prog 77 #[.pointer (some ⟨c, 0, none⟩), .int .i64 x, .int .i64 n, .int .i64 need] w fun e w' => e = .returned (.tuple #[.slice none 0 0, .int .i64 (-30)]) ∧ Turn NoBlock w w' := by
  refine (parts_all h.sp h.gt hs x n need hx hn hxn hneed hm).mono ?_
  rintro e w' (⟨pv, li, N, cv, _, _, h3, h4, _⟩ | ⟨h1, _, h2⟩)
  · obtain ⟨p, hp, y, b1, b2, b3, b4, b5⟩ := hpr
    obtain ⟨q, hq, e1⟩ := h3.has h.gt.ok hp b1 b2 b3 b4
    have := h4 q hq
    rw [e1, b5] at this
    cases this
  · exact ⟨h1, h2⟩
/-- Where all pieces are mapped. -/
def In1 (l : List Pc) (U : Nat) : Prop := ∀ p ∈ l, p.vmo = 1 ∧ 0 ≤ p.from' ∧ p.from' + p.len ≤ (U : Int)
theorem SpM.in1 (h : SpM l x n li) (hl : In1 l U) {q : Pc} (hq : q ∈ li) : q.vmo = 1 ∧ 0 < q.len ∧ 0 ≤ q.from' ∧ q.from' + q.len ≤ (U : Int) ∧ q.len ≤ n := by
  obtain ⟨p, hp, _, _, _, e2, e3, e4, e5⟩ := h.prot hq
  obtain ⟨h1, h2, h3, _⟩ := h.ins q hq
  obtain ⟨g1, g2, g3⟩ := hl p hp
  unfold Pc.fin at *
  exact ⟨by omega, by omega, by omega, by omega, by omega⟩
/-- Written where all may be written. -/
theorem SpS.write (h : SpS w0 c s a size most r M l w) (z : So M U C o R) (hs : size ≤ 65536) (hU : U ≤ 65536) (hx : 0 ≤ x) (B off cb : Nat) (pb : Option Addr) (bs : List UInt8) (hpb : 0 < bs.length → pb = some ⟨B, off, none⟩) (hv : SrcF w s r (.slice pb bs.length cb) bs) (hl : bs.length ≤ 4096) (hxn : x + (bs.length : Int) ≤ size) (hm : ∀ y, x ≤ y → y < x + (bs.length : Int) → ¬ Free l y) (h1 : In1 l U) (hpr : ∀ p ∈ l, p.at' < x + (bs.length : Int) → x < p.fin → hasB p.prot 2 = true) (hl16 : l.length ≤ 16) (P : Nat) (hP : bs.length + 63 < 64 * P + 1) (hR : l.length * P ≤ R) :
    Calls Try.prog 42 #[.pointer (some ⟨c, 0, none⟩), .int .i64 x, .slice pb bs.length cb] w fun e w' => e = .returned (.tuple #[.int .i64 (bs.length : Int), .int .i64 0]) ∧ ∃ li r' M' o', SpM l x (bs.length : Int) li ∧ SpS w0 c s a size most r' M' l w' ∧ So M' U (wrK C li bs li.length) o' (R - l.length * P) := by
  refine (zwrite_ok (P := P) h.sp h.mem z h.cf hU x B off cb pb bs hpb hv hl (SpM l x (bs.length : Int)) (h.partsYes hs 2 (.inr rfl) hx (by omega) hxn hm hpr) (fun li hli => ?_)).mono ?_
  · have hlen := hli.len
    refine ⟨by omega, hli.sum, Nat.le_trans (Nat.mul_le_mul_right P hlen) hR, fun q hq => ?_⟩
    have := hli.in1 h1 hq
    omega
  · rintro e w' ⟨h2, li, r', M', o', h3, h4, h5, h6, _⟩
    have := Nat.mul_le_mul_right P h3.len
    exact ⟨h2, li, r', M', o', h3, h.next h4 h6, h5.less (by omega)⟩
/-- What stands in a part. -/
def rdP (C : Nat → UInt8) (q : Pc) : List UInt8 := (List.range q.len.toNat).map fun j => C (q.from'.toNat + j)
/-- Read where all may be read. -/
theorem SpS.read (h : SpS w0 c s a size most r M l w) (z : So M U C o R) (hs : size ≤ 65536) (hU : U ≤ 65536) (hx : 0 ≤ x) (n : Nat) (hl : n ≤ 4096) (hxn : x + (n : Int) ≤ size) (hm : ∀ y, x ≤ y → y < x + (n : Int) → ¬ Free l y) (h1 : In1 l U) (hpr : ∀ p ∈ l, p.at' < x + (n : Int) → x < p.fin → hasB p.prot 1 = true) (hl16 : l.length ≤ 16) :
    Calls Try.prog 43 #[.pointer (some ⟨c, 0, none⟩), .int .i64 x, .int .i64 (n : Int)] w fun e w' => ∃ u, e = .returned (.tuple #[u, .int .i64 0]) ∧ ∃ li, SpM l x (n : Int) li ∧ Byts u (li.flatMap (rdP C)) w' ∧ (∀ j, Blk u j → w.heap.size ≤ j) ∧ Turn NoBlock w w' := by
  refine zread_ok h.sp x n hl (SpM l x (n : Int)) (rdP C) ((h.partsYes hs 1 (.inl rfl) hx (by omega) hxn hm hpr).mono (fun e w' hh => ?_)) (fun li hli => ?_)
  · obtain ⟨pv, li, N, cv, g1, g2, g3, g4, g5, g6⟩ := hh
    exact ⟨pv, li, N, cv, g1, g2, g3, g4, g6⟩
  · have hlen := hli.len
    refine ⟨by omega, fun q hq => ?_⟩
    obtain ⟨g1, g2, g3, g4, g5⟩ := hli.in1 h1 hq
    refine ⟨g2, by omega, by unfold rdP; simp, fun W' t => ?_⟩
    have c := so_read (h.mem.past t) z q.from'.toNat q.len.toNat (by omega) (by omega) (by omega)
    rw [show ((q.from'.toNat : Nat) : Int) = q.from' by omega, show ((q.len.toNat : Nat) : Int) = q.len by omega] at c
    rw [g1]
    exact c
end
end Go.Proofs.Ytdddmjdlikjedaa

/-
  A range within one piece; what the statements' fixed run answers. No conditions.
-/
namespace Go.Proofs.Ytdddmjdlikjedaa
open Go.ChangeShapes Go.WideShapes Go.ChangeAt Go.RowKit

theorem span_one {p : Pc} {x n : Int} {li : List Pc} (h : SpM [p] x n li) : (n = 0 ∧ li = []) ∨ (0 < n ∧ li = [⟨x, n, p.vmo, p.from' + (x - p.at'), p.prot⟩]) := by
  have hl := h.len
  have hs := h.sum
  match li, hl, h, hs with
  | [], _, _, hs => exact .inl ⟨hs.symm, rfl⟩
  | [q], _, h, hs =>
    right
    obtain ⟨p', hp', _, _, e1, e2, e3, _⟩ := h.prot (q := q) (by simp)
    obtain ⟨h1, h2, h3, _⟩ := h.ins q (by simp)
    have hq : q.len = n := by simpa [sumP] using hs
    have hn : 0 < n := by unfold Pc.fin at *; omega
    obtain ⟨q', hq', c1, _⟩ := h.cov x (Int.le_refl _) (by omega)
    simp only [List.mem_singleton] at hp' hq'
    subst hp' hq'
    refine ⟨hn, ?_⟩
    obtain ⟨qa, ql, qv, qf, qr⟩ := q'
    simp only at *
    have h5 : qa = x := by omega
    have h6 : qf = p'.from' + (x - p'.at') := by omega
    subst h5 h6 e1 e2 hq
    rfl
  | _ :: _ :: _, hl, _, _ => simp at hl
theorem wrK_one {C : Nat → UInt8} {q : Pc} {bs : List UInt8} (h : q.len = (bs.length : Int)) : wrK C [q] bs 1 = layC C q.from'.toNat bs := by
  rw [wrK_succ (q := q) rfl]
  show layC C _ ((bs.drop 0).take q.len.toNat) = _
  rw [List.drop_zero, List.take_of_length_le (by omega)]
theorem layC_nil {C : Nat → UInt8} {t : Nat} : layC C t [] = C := funext fun x => by
  unfold layC
  rw [if_neg (fun h => by simp at h; omega)]
/-- What one piece's object bears behind a write. -/
theorem wrK_p {C : Nat → UInt8} {p : Pc} {x : Int} {bs : List UInt8} {li : List Pc} (h : SpM [p] x (bs.length : Int) li) : wrK C li bs li.length = layC C (p.from' + (x - p.at')).toNat bs := by
  rcases span_one h with ⟨h1, rfl⟩ | ⟨_, rfl⟩
  · have : bs = [] := List.eq_nil_of_length_eq_zero (by omega)
    subst this
    rw [layC_nil]
    rfl
  · exact wrK_one rfl
theorem rd_p {C : Nat → UInt8} {p : Pc} {x : Int} {n : Nat} {li : List Pc} (h : SpM [p] x (n : Int) li) : li.flatMap (rdP C) = (List.range n).map (fun j => C ((p.from' + (x - p.at')).toNat + j)) := by
  rcases span_one h with ⟨h1, rfl⟩ | ⟨_, rfl⟩
  · have : n = 0 := by omega
    subst this
    rfl
  · simp [rdP]
theorem lay_read {C : Nat → UInt8} {t : Nat} {bs : List UInt8} : (List.range bs.length).map (fun j => layC C t bs (t + j)) = bs := by
  apply List.ext_getElem?
  intro i
  rw [List.getElem?_map]
  by_cases hi : i < bs.length
  · rw [List.getElem?_range hi]
    simp only [Option.map_some]
    unfold layC
    rw [if_pos (by omega), show t + i - t = i by omega, List.getD_eq_getElem?_getD, List.getElem?_eq_getElem hi]
    rfl
  · rw [List.getElem?_eq_none (by simp; omega), List.getElem?_eq_none (by omega)]
    rfl
theorem put_nil (k : Nat) (p : Pc) : putL [] k p = [p] := by unfold putL; simp
theorem conv_four (w : World) (x y z u : Int) : Sem.run Try.prog (convert 22 22 (.slice (some ⟨w.heap.size, 0, none⟩) 4 4)) (w.alloc (.cells #[.int .u8 x, .int .u8 y, .int .u8 z, .int .u8 u] 5)) = .ok (.slice (some ⟨w.heap.size, 0, none⟩) 4 4) (w.alloc (.cells #[.int .u8 x, .int .u8 y, .int .u8 z, .int .u8 u] 5 (4, 5))) :=
  Lib.run_convert_bytes_const w 22 5 #[.int .u8 x, .int .u8 y, .int .u8 z, .int .u8 u] 4 4 bytes31 (by kernel_rfl)
theorem src_abcd {w : World} {s : Nat} {r : Rep} {M : Mod} (h : SMem w s r M) : SrcF (w.alloc (.cells #[.int .u8 97, .int .u8 98, .int .u8 99, .int .u8 100] 5 (4, 5))) s r (.slice (some ⟨w.heap.size, 0, none⟩) 4 4) [97, 98, 99, 100] :=
  .inr ⟨w.heap.size, 0, 4, rfl, Nat.le_refl _, fresh_not h, by simp, fun j hj => by
    rw [Nat.zero_add, World.cell?_alloc_mark]
    have : j = 0 ∨ j = 1 ∨ j = 2 ∨ j = 3 := by simp at hj; omega
    rcases this with rfl | rfl | rfl | rfl <;> rfl⟩
theorem str9 : Try.prog.underlying 9 = some .string := by kernel_rfl
theorem back_abcd {w : World} {g c : Nat} (h : ∀ j u, (bcells [97, 98, 99, 100])[j]? = some u → w.cell? ((⟨g, 0, none⟩ : Addr).add j) = some u) : ∀ w', w' = w → Sem.run Try.prog (convert 22 9 (.slice (some ⟨g, 0, none⟩) 4 c)) w' = .ok (.string ⟨#[97, 98, 99, 100]⟩) w' := fun w' e => by
  subst e
  exact run_convert_bytes_back w' 22 9 5 ⟨g, 0, none⟩ c [97, 98, 99, 100] bytes31 (by kernel_rfl) str9 (fun j hj => by
    have : j = 0 ∨ j = 1 ∨ j = 2 ∨ j = 3 := by simp at hj; omega
    rcases this with rfl | rfl | rfl | rfl <;> exact h _ _ rfl)

set_option maxRecDepth 20000 in
set_option maxHeartbeats 1000000 in
theorem awake10 (w : World) : Calls Try.prog 39 #[] w fun e w' => e = .returned (.bool true) ∧ Turn NoBlock w w' := by
  have c1 : Calls Try.prog 14 #[.int .i64 8, .int .i64 4] w _ := vnew_yes 8 4 w (by omega) (by omega)
  have hcv := conv_four
  have HS := Lib.hid (fun (w : World) s r M (h : SMem w s r M) => src_abcd h)
  have hz0 := Lib.hid (so_new 8 4 128 (by omega) (by omega))
  have HM := Lib.hid (fun (w0 w : World) (c s a : Nat) (r : Rep) (h : SpS w0 c s a 512 4 r (ZN 8 4 128) [] w) => SpS.mapAt h (by omega) (by simp) 128 1 0 3 64 (by unfold fit; omega) (by unfold isGrid isMul; omega) (by unfold isMul; omega) (by unfold isProt; omega) (by omega) (fun y _ _ p hp => by cases hp.1) hz0.out.at1 rfl (by decide) (by decide))
  have HW := Lib.hid (fun (w0 W : World) (c s a B : Nat) (r : Rep) (h : SpS w0 c s a 512 4 r (ZN 8 4 128) [⟨64, 128, 1, 0, 3⟩] W) (hv : SrcF W s r (.slice (some ⟨B, 0, none⟩) 4 4) [97, 98, 99, 100]) =>
    show Calls Try.prog 42 #[.pointer (some ⟨c, 0, none⟩), .int .i64 126, .slice (some ⟨B, 0, none⟩) 4 4] W _ from (SpS.write (x := 126) h hz0.out (by omega) (by omega) (by omega) B 0 4 (some ⟨B, 0, none⟩) [97, 98, 99, 100] (fun _ => rfl) hv (by decide) (by decide) (fun y h1 h2 hf => hf ⟨64, 128, 1, 0, 3⟩ ⟨by simp, by simp at *; omega, by unfold Pc.fin; simp at *; omega⟩) (fun p hp => by simp at hp; subst hp; decide) (fun p hp _ _ => by simp at hp; subst hp; rfl) (by decide) 2 (by decide) (by decide)).mono (R' := fun e w' => e = .returned (.tuple #[.int .i64 4, .int .i64 0]) ∧ ∃ r' M' o', Hid (SpS w0 c s a 512 4 r' M' [⟨64, 128, 1, 0, 3⟩] w' ∧ So M' 128 (layC (fun _ => 0) 62 [97, 98, 99, 100]) o' 6)) (by
      rintro e w' ⟨h1, li, r', M', o', h2, h3, h4⟩
      rw [wrK_p h2] at h4
      exact ⟨h1, r', M', o', Lib.hid ⟨h3, h4⟩⟩))
  have HR := Lib.hid (fun (W : World) (s : Nat) (r : Rep) (M : Mod) (o : Ob) (h : SMem W s r M) (z : So M 128 (layC (fun _ => 0) 62 [97, 98, 99, 100]) o 6) =>
    show Calls Try.prog 18 #[.pointer (some ⟨s, 0, none⟩), .int .i64 1, .int .i64 62, .int .i64 4] W _ from (so_read h z 62 4 (by omega) (by omega) (by omega)).mono (R' := fun e w' => ∃ g c, e = .returned (.tuple #[.slice (some ⟨g, 0, none⟩) 4 c, .int .i64 0]) ∧ (∀ w2, w2 = w' → Sem.run Try.prog (convert 22 9 (.slice (some ⟨g, 0, none⟩) 4 c)) w2 = .ok (.string ⟨#[97, 98, 99, 100]⟩) w2) ∧ Turn NoBlock W w') (by
      rintro e w' ⟨u, rfl, hB, hf, tt⟩
      rw [show (List.range 4).map (fun j => layC (fun _ => 0) 62 [97, 98, 99, 100] (62 + j)) = [97, 98, 99, 100] from lay_read (C := fun _ => 0) (t := 62) (bs := [97, 98, 99, 100])] at hB
      obtain ⟨g, c, rfl, -, hn⟩ := byts_news hB (m := 4) rfl (by omega)
      exact ⟨g, c, rfl, back_abcd hn, tt⟩))
  go_enter Try.func39, Try.ntmps39
  go_wp2_with (first
    | (go_at_call 41; (with_reducible refine (HM.out _ _ _ _ _ _ K3.out).mono ?_); rintro x w4 ⟨rfl, k4, m4⟩; rw [put_nil] at m4; have K4 := Lib.hid m4; clear m4)
    | (go_at_call 18; (with_reducible refine (HR.out _ _ _ _ _ K5.out.1.mem K5.out.2).mono ?_); rintro x w6 ⟨g6, c6, rfl, hcv6, t6⟩; have hcv7 := hcv6 _ rfl; have K6 := Lib.hid (K5.out.1.turn.trans t6 (fun _ h => .inl h)); clear hcv6 t6)
    | (go_at_call 42; (with_reducible refine (HW.out _ _ _ _ _ _ _ (K4.out.past ((Turn.refl NoBlock _).alloc _)) (HS.out _ _ _ _ K4.out.mem)).mono ?_); rintro x w5 ⟨rfl, r5, M5, o5, K5⟩)
    | (go_at_call 40; (with_reducible refine (znew_any s 512 4 _ (by unfold isMul; omega) (by omega) (by omega)).mono ?_); rintro x w3 ⟨rfl, rfl⟩; have K3 := Lib.hid (sps_new K2.out 512 4 (by omega)))
    | (go_at_call 16; (with_reducible refine (so_create K1.out.mem (by omega) 128 (by omega) (by omega)).mono ?_); rintro x w2 ⟨rfl, r2, m2, k2⟩; have K2 := Lib.hid (show VSt w w2 s r2 (ZN 8 4 128) from K1.out.next m2 k2); clear m2 k2)
    | (go_at_call 14; (with_reducible refine c1.mono ?_); rintro x w1 ⟨s, r, rfl, m1, t1, f1⟩; have K1 := Lib.hid (show VSt w w1 s r (M0 8 4) from ⟨m1, t1, f1⟩); clear m1 t1 f1))
  go_ret
  exact ⟨rfl, K6.out⟩
end Go.Proofs.Ytdddmjdlikjedaa

/-
  How many pieces of an object, and all pieces; pieces that lie side by side. No conditions.
-/
namespace Go.Proofs.Ytdddmjdlikjedaa
open Go.ChangeShapes Go.WideShapes Go.ChangeAt Go.RowKit

/-- All up to E is mapped, and nothing behind; each piece is one of Q. -/
structure RunQ (l : List Pc) (E : Int) (Q : Pc → Prop) : Prop where
  full : ∀ y, 0 ≤ y → y < E → ¬ Free l y
  free : ∀ y, E ≤ y → Free l y
  each : ∀ p ∈ l, Q p
theorem RunQ.nil (Q : Pc → Prop) : RunQ [] 0 Q := ⟨fun y h0 h1 => by omega, fun y _ p hp => (by cases hp.1), fun p hp => (by cases hp)⟩
section
variable {l : List Pc} {E size n : Int} {Q : Pc → Prop}
theorem RunQ.place (h : RunQ l E Q) (hE : 0 ≤ E) (hn : 0 < n) {x : Int} (h0 : 0 ≤ x) (hf : ∀ y, x ≤ y → y < x + n → Free l y) (hl : ∀ s, 0 ≤ s → s < x → ∃ y, s ≤ y ∧ y < s + n ∧ ¬ Free l y) : x = E := by
  have h1 : ¬ x < E := fun hh => h.full x h0 hh (hf x (Int.le_refl _) (by omega))
  have h2 : ¬ E < x := fun hh => by
    obtain ⟨y, a1, _, a3⟩ := hl E hE hh
    exact a3 (h.free y a1)
  omega
theorem RunQ.none (h : RunQ l E Q) (hn : 0 < n) (hs : size < E + n) : ∀ s, 0 ≤ s → s + n ≤ size → ∃ y, s ≤ y ∧ y < s + n ∧ ¬ Free l y := fun s h0 h1 => ⟨s, Int.le_refl _, by omega, h.full s h0 (by omega)⟩
theorem RunQ.put (h : RunQ l E Q) (hn : 0 < n) (k : Nat) (p : Pc) (h1 : p.at' = E) (h2 : p.len = n) (h3 : Q p) : RunQ (putL l k p) (E + n) Q := by
  refine ⟨fun y h0 hy hf => ?_, fun y hy => ?_, fun q hq => ?_⟩
  · rw [vw_free] at hf
    rcases Int.lt_or_le y E with h4 | h4
    · refine h.full y h0 h4 (vw_free.2 (fun t ht => hf t (vw_put.2 (.inl ht))))
    · exact hf p.key (vw_put.2 (.inr (vw_one.2 ⟨by omega, by unfold Pc.fin; omega, rfl⟩)))
  · rw [vw_free]
    intro t ht
    rcases vw_put.1 ht with h4 | h4
    · exact vw_free.1 (h.free y (by omega)) t h4
    · have := vw_one.1 h4
      unfold Pc.fin at this
      omega
  · rcases mem_put.1 hq with h4 | rfl
    · exact h.each q h4
    · exact h3
end
theorem uses_all {l : List Pc} {i : Int} (h : ∀ p ∈ l, p.vmo = i) : usesN l i = l.length := by
  unfold usesN
  rw [List.filter_eq_self.2 (fun p hp => decide_eq_true (h p hp))]
section
variable {w0 w w' : World} {c s a : Nat} {size most : Int} {r : Rep} {M : Mod} {l : List Pc} {o : Ob} {E : Int} {Q : Pc → Prop}
/-- Mapped behind what stands side by side. -/
theorem SpS.mapRun (h : SpS w0 c s a size most r M l w) (hr : RunQ l E Q) (hE : 0 ≤ E ∧ E % 64 = 0) (hs : size ≤ 65536) (hm : (l.length : Int) < most ∧ most ≤ 65536) (n i p : Int) (hi : fit i) (hn : 1 ≤ n ∧ n % 64 = 0) (hp : isProt p) (hin : E + n ≤ size) (hO : M.O i = some o) (hd : o.drp = false) (hz : o.size ≤ 4294967296) (hfo : n ≤ o.size) (hQ : Q ⟨E, n, i, 0, p⟩) :
    Calls Try.prog 41 #[.pointer (some ⟨c, 0, none⟩), .int .i64 (-1), .int .i64 n, .int .i64 i, .int .i64 0, .int .i64 p] w fun e w' => e = .returned (.tuple #[.int .i64 E, .int .i64 0]) ∧ ∃ k, SpS w0 c s a size most r M (putL l k ⟨E, n, i, 0, p⟩) w' ∧ RunQ (putL l k ⟨E, n, i, 0, p⟩) (E + n) Q := by
  have hL := h.lies i 0 n hi (by unfold fit; omega) (by unfold fit; omega) hO hd hz
  rw [show lieS o 0 n = 0 by unfold lieS; rw [if_neg (by omega), if_pos (by omega)]] at hL
  refine (map_room h.sp h.gt hs hm n i 0 p E (by unfold fit; omega) (by unfold isGrid isMul; omega) hE.2 (by unfold isMul; omega) hp (fun x h0 h1 h2 h3 => hr.place hE.1 (by omega) h0 h2 h3) ⟨E, hE.1, hin, fun y h1 _ => hr.free y h1⟩ hL).mono ?_
  rintro e w' ⟨h1, k, h2, h3⟩
  exact ⟨h1, k, h.mapped h2 h3, hr.put (by omega) k _ rfl rfl hQ⟩
/-- Refused wherever there is no such room. -/
theorem SpS.mapRunNo (h : SpS w0 c s a size most r M l w) (hr : RunQ l E Q) (hs : size ≤ 65536) (n i p : Int) (hi : fit i) (fn : fit n) (hno : ¬ (1 ≤ n ∧ n % 64 = 0 ∧ E + n ≤ size)) (hO : M.O i = some o) (hd : o.drp = false) (hz : o.size ≤ 4294967296) :
    Calls Try.prog 41 #[.pointer (some ⟨c, 0, none⟩), .int .i64 (-1), .int .i64 n, .int .i64 i, .int .i64 0, .int .i64 p] w fun e w' => ∃ z : Int, z < 0 ∧ e = .returned (.tuple #[.int .i64 0, .int .i64 z]) ∧ Turn NoBlock w w' := by
  have hL := h.lies i 0 n hi (by unfold fit; omega) fn hO hd hz
  rcases lieS_is o 0 n with hz | hz | hz
  · rw [hz] at hL
    exact (map_lie (-1) n i 0 p (.inr (.inl rfl)) hL).mono (fun e w' hh => ⟨-10, by omega, hh.1, hh.2⟩)
  · rw [hz] at hL
    refine (map_none h.sp h.gt hs n i 0 p fn ?_ hL).mono (fun e w' hh => ?_)
    · by_cases hg : isGrid 0 n
      · right
        unfold isGrid isMul at hg
        exact hr.none (by omega) (by omega)
      · exact .inl hg
    · obtain ⟨⟨z, h1, h2⟩, h3⟩ := hh
      exact ⟨z, h1, h2, h3⟩
  · rw [hz] at hL
    exact (map_lie (-1) n i 0 p (.inr (.inr rfl)) hL).mono (fun e w' hh => ⟨-14, by omega, hh.1, hh.2⟩)
set_option maxRecDepth 20000 in
/-- How many pieces of an object. -/
theorem SpS.uses (h : SpS w0 c s a size most r M l w) (hs : size ≤ 65536) (i : Int) :
    Calls Try.prog 44 #[.pointer (some ⟨c, 0, none⟩), .int .i64 i] w fun e w' => e = .returned (.int .i64 (usesN l i : Nat)) ∧ Turn NoBlock w w' := by
  have hll := gok_len h.gt.ok
  have cL := (h.gt.list hs).mono (R' := fun e w' => ∃ (pv : Option Addr) (cv : Nat), e = .returned (.slice pv l.length cv) ∧ Hid (PRow (.slice pv l.length cv) l w' ∧ Turn NoBlock w w')) (by
    rintro e w' ⟨v', h1, h2, _, h4⟩
    obtain ⟨pi, ci, hv⟩ := h2.slice
    subst hv
    exact ⟨pi, ci, h1, Lib.hid ⟨h2, h4⟩⟩)
  have c1 := h.sp.c1
  obtain ⟨N, hN⟩ : ∃ N, N = l.length := ⟨_, rfl⟩
  rw [← hN] at cL hll
  have HN := Lib.hid hN
  have hN4 : N ≤ 1024 := by omega
  clear h hN hll
  go_enter Try.func44, Try.ntmps44
  go_wp2_with (go_at_call 35; (with_reducible refine cL.mono ?_); rintro e w1 ⟨pv, cv, rfl, HL⟩)
  go_loopg [5, 14] N (fun g s5 s14 wr => ∃ (k u : Nat), k ≤ N ∧ g = N - k ∧ s5 = .int .i64 (u : Int) ∧ s14 = .int .i64 k ∧ u ≤ k ∧ Hid (u = usesN (l.take k) i ∧ Turn NoBlock w1 wr))
  case atStart => exact ⟨0, 0, by omega, by omega, rfl, rfl, by omega, Lib.hid ⟨rfl, Turn.refl _ _⟩⟩
  case round =>
    obtain ⟨k, u, hk, hg, rfl, rfl, huk, HT⟩ := hrel
    by_cases hlt : k < N
    · obtain ⟨q, hq⟩ := gget_some (show k < l.length by rw [← HN.out]; exact hlt)
      have hr1 := HL.out.1.past HT.out.2
      obtain ⟨g, c', he, -, -⟩ := hr1.shape (by rw [← HN.out]; omega)
      simp only [Value.slice.injEq] at he
      obtain ⟨rfl, -, rfl⟩ := he
      obtain ⟨c0, c1, c2, c3, c4⟩ := hr1.five hq
      have hst := uses_step hq i
      rw [← HT.out.1] at hst
      clear hr1 hq
      by_cases hv : q.vmo = i
      · rw [if_pos hv] at hst
        have HST := Lib.hid hst
        clear hst
        go_wp2
        go_roundg (N - (k + 1))
        case measure => omega
        case rel => exact ⟨k + 1, u + 1, by omega, by omega, by go_num, by go_num, by omega, Lib.hid ⟨HST.out.symm, HT.out.2.alloc _⟩⟩
      · rw [if_neg hv] at hst
        have HST := Lib.hid hst
        clear hst
        go_wp2
        go_roundg (N - (k + 1))
        case measure => omega
        case rel => exact ⟨k + 1, u, by omega, by omega, rfl, by go_num, by omega, Lib.hid ⟨HST.out.symm, HT.out.2.alloc _⟩⟩
    · obtain rfl : k = N := by omega
      have h1 := HT.out.1
      rw [List.take_of_length_le (by rw [HN.out]; exact Nat.le_refl _)] at h1
      subst h1
      go_wp2
      go_ret
      exact ⟨rfl, HL.out.2.trans HT.out.2 (fun _ h => .inl h)⟩
set_option maxRecDepth 20000 in
/-- All pieces. -/
theorem SpS.pieces (h : SpS w0 c s a size most r M l w) (hs : size ≤ 65536) :
    Calls Try.prog 47 #[.pointer (some ⟨c, 0, none⟩)] w fun e w' => (∃ (pv : Option Addr) (cv : Nat), e = .returned (.slice pv l.length cv)) ∧ Turn NoBlock w w' := by
  have cL := (h.gt.list hs).mono (R' := fun e w' => ∃ (pv : Option Addr) (cv : Nat), e = .returned (.slice pv l.length cv) ∧ Turn NoBlock w w') (by
    rintro e w' ⟨v', h1, h2, _, h4⟩
    obtain ⟨pi, ci, hv⟩ := h2.slice
    subst hv
    exact ⟨pi, ci, h1, h4⟩)
  have c1 := h.sp.c1
  clear h
  go_enter Try.func47, Try.ntmps47
  go_wp2_with (go_at_call 35; (with_reducible refine cL.mono ?_); rintro e w1 ⟨pv, cv, rfl, t1⟩)
  go_ret
  exact ⟨⟨pv, cv, rfl⟩, t1⟩
end
end Go.Proofs.Ytdddmjdlikjedaa

