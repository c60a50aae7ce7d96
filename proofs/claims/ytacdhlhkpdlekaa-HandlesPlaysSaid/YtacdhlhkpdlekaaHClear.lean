/-
  What Clear of a table tells and makes of its places: all are free. No conditions but that the table is one that calls can make.
-/
import Derived.Test.YtacdhlhkpdlekaaHCmp
import Derived.Laws.IdiomCopy
namespace Go.Proofs.Ytacdhlhkpdlekaa
open Go.ChangeShapes Go.WideShapes Go.ChangeAt Go.RowKit

theorem clear_some (w : World) (ty : TypeId) (g n c : Nat) (hn : 0 < n) (hc : ∀ j, j < n * 4 → (w.cell? ⟨g, 0 + j, none⟩).isSome = true) (hf : ∀ j, j < n * 4 → w.frozen? ⟨g, 0 + j, none⟩ = false) :
    (Builtin.clear_ #[69] ty #[.slice (some ⟨g, 0, none⟩) n c]).run Try.prog w = .ok (.tuple #[]) (w.setCells g 0 (List.replicate (n * 4) (.int .i64 0))) := by
  have hz : ∀ w, (zeroValue 94).run Try.prog w = .ok (.agg #[.int .i64 0, .int .i64 0, .int .i64 0, .int .i64 0]) w := fun w => by kernel_rfl
  have hzc : (Builtin.zeroCells (Value.agg #[.int .i64 0, .int .i64 0, .int .i64 0, .int .i64 0]).cells n).toList = List.replicate (n * 4) (.int .i64 0) := by
    simp [Builtin.zeroCells, Value.cells]
    apply List.ext_getElem
    · simp
    · intro i h1 h2
      have : i % 4 = 0 ∨ i % 4 = 1 ∨ i % 4 = 2 ∨ i % 4 = 3 := by omega
      rcases this with h | h | h | h <;> simp [h]
  have hst := run_storeCells_cells (P := Try.prog) g 0 (List.replicate (n * 4) (.int .i64 0)) 0 w (by simpa using hc) (by simpa using hf) (by intro v hv'; rw [List.eq_of_mem_replicate hv']; rfl)
  simp only [Nat.add_zero] at hst
  obtain ⟨m, rfl⟩ : ∃ m, n = m + 1 := ⟨n - 1, by omega⟩
  simp [Builtin.clear_, run_underlying slots69, hz, hzc, hst]
theorem clear_none (w : World) (ty : TypeId) (p : Option Addr) (c : Nat) : (Builtin.clear_ #[69] ty #[.slice p 0 c]).run Try.prog w = .ok (.tuple #[]) w := by
  cases p <;> simp [Builtin.clear_, run_underlying slots69]

theorem own_setCells {g n c e size : Nat} : ∀ (vs : List Value) (o : Nat) (w : World) (xs : List Value), w.ownsRow 0 e size (.slice (some ⟨g, 0, none⟩) n c) n xs → o + vs.length = xs.length → (w.setCells g o vs).ownsRow 0 e size (.slice (some ⟨g, 0, none⟩) n c) n (xs.take o ++ vs)
  | [], _, _, xs, h, hl => by
    simp at hl
    rw [List.append_nil, List.take_of_length_le (by omega)]
    exact h
  | v :: r, o, _, xs, h, hl => by
    simp only [List.length_cons] at hl
    have h1 := (h.stored o v).1
    have h2 := own_setCells r (o + 1) _ _ h1 (by simp; omega)
    have e : (xs.set o v).take (o + 1) = xs.take o ++ [v] := by
      rw [List.take_add_one, List.take_set_of_le (by omega), List.getElem?_set_self (by omega)]
      rfl
    rw [e, List.append_assoc] at h2
    exact h2
theorem turn_setCells {g : Nat} {F : Nat → Prop} (hF : F g) : ∀ (vs : List Value) (o : Nat) (a w : World), Turn F a w → Turn F a (w.setCells g o vs)
  | [], _, _, _, h => h
  | v :: r, o, a, _, h => turn_setCells hF r (o + 1) a _ (h.setCell (p := ⟨g, o, none⟩) (.inl hF) v)

section
variable {w : World} {a cap : Nat} {vs vf : Value} {ps : List Pl} {fr : List Nat}
theorem cells_none (n : Nat) : cellsOf (List.replicate n Pl.none) = List.replicate (n * 4) (.int .i64 0) := by
  induction n with
  | zero => rfl
  | succ n ih =>
    rw [List.replicate_succ, cells_cons, ih, show (n + 1) * 4 = n * 4 + 1 + 1 + 1 + 1 by omega]
    rfl
/-- All places are cleared. -/
theorem TMem.cleared {g n c : Nat} (h : TMem w a (.slice (some ⟨g, 0, none⟩) n c) vf cap ps fr) (hn : ps.length = n) :
    TMem (w.setCells g 0 (List.replicate (n * 4) (.int .i64 0))) a (.slice (some ⟨g, 0, none⟩) n c) vf cap (List.replicate n Pl.none) fr ∧ Turn (Foot a (.slice (some ⟨g, 0, none⟩) n c) vf) w (w.setCells g 0 (List.replicate (n * 4) (.int .i64 0))) := by
  have hp := h.places
  rw [hn] at hp
  have t : Turn (fun b => b = g) w (w.setCells g 0 (List.replicate (n * 4) (.int .i64 0))) := turn_setCells (F := fun b => b = g) rfl _ _ _ _ (Turn.refl _ _)
  have h1 := own_setCells (List.replicate (n * 4) (.int .i64 0)) 0 w (cellsOf ps) hp (by rw [cells_len, hn]; simp)
  have hag : a ≠ g := fun e => ne_own h.places h.head (by decide) (by simp [Value.ownBlock, e])
  have hgf : vf.ownBlock ≠ some g := ne_own2 h.places h.freed (by decide) rfl
  refine ⟨⟨t.heap h.head hag, ?_, t.own h.freed (fun k hk e => hgf (by rw [hk, e]))⟩, t.mono (fun b hb => .inl (by subst hb; exact .inr (.inl rfl)))⟩
  rw [List.length_replicate, cells_none]
  simpa using h1
theorem TMem.clears {n c : Nat} {p : Option Addr} (h : TMem w a (.slice p n c) vf cap ps fr) (hn : ps.length = n) :
    ∃ W', (∀ ty, (Builtin.clear_ #[69] ty #[.slice p n c]).run Try.prog w = .ok (.tuple #[]) W') ∧ TMem W' a (.slice p n c) vf cap (List.replicate n Pl.none) fr ∧ Turn (Foot a (.slice p n c) vf) w W' := by
  by_cases h0 : n = 0
  · subst h0
    refine ⟨w, fun ty => clear_none w ty p c, ?_, Turn.refl _ _⟩
    rw [List.length_eq_zero_iff] at hn
    subst hn
    exact h
  · obtain ⟨g, c', he, -, -⟩ := own_shape h.places (by omega)
    simp only [Value.slice.injEq] at he
    obtain ⟨rfl, -, rfl⟩ := he
    obtain ⟨h1, h2⟩ := h.cleared hn
    have hp := h.places
    rw [hn] at hp
    refine ⟨_, fun ty => clear_some w ty g n c (by omega) (fun j hj => ?_) (fun j _ => hp.frozenAt _), h1, h2⟩
    rw [Nat.zero_add, hp.cellAt j (by exact hj), List.getElem?_eq_getElem (by rw [cells_len, hn]; exact hj)]
    rfl
/-- The freed ones are none. -/
theorem TMem.freedNil {v : Value} (h : TMem w a vs vf cap ps fr) (hv : w.ownsRow 0 3 1 v 0 []) (hb : ∀ k, v.ownBlock = some k → vf.ownBlock = some k) :
    TMem (w.setCell ⟨a, 2, none⟩ v) a vs v cap ps [] ∧ Turn (Foot a vs vf) w (w.setCell ⟨a, 2, none⟩ v) ∧ ∀ j, Foot a vs v j → Foot a vs vf j := by
  have h1 := ne_own h.places h.head (by decide)
  have h2 : v.ownBlock ≠ some a := ne_own hv h.head (by decide)
  refine ⟨⟨?_, own_past h.places h1 _, own_past hv h2 _⟩, (Turn.refl _ _).setCell (p := ⟨a, 2, none⟩) (.inl (.inl rfl)) _, fun j hj => ?_⟩
  · have := set_at h.head 2 v
    simpa using this
  · rcases hj with hj | hj | hj
    · exact .inl hj
    · exact .inr (.inl hj)
    · exact .inr (.inr (hb j hj))
/-- One more is freed. -/
theorem TMem.freeGrow {w1 : World} {o : Obj} {g c n k : Nat} (h : TMem w a vs vf cap ps fr) (hn : fr.length = n)
    (hown : w1.ownsRow 0 3 1 (.slice (some ⟨g, 0, none⟩) (n + 1) c) (n + 1) (natsOf fr ++ [.int .i64 (k : Nat)])) (hgrow : (w.alloc o).grownBy w1 vf.ownBlock) (hat : vf.ownBlock = some g ∨ g = w.heap.size + 1) :
    w1.heap[a]? = some (.cells #[.int .i64 cap, vs, vf] 72 (0, 0)) ∧ TMem (w1.setCell ⟨a, 2, none⟩ (.slice (some ⟨g, 0, none⟩) (n + 1) c)) a vs (.slice (some ⟨g, 0, none⟩) (n + 1) c) cap ps (fr ++ [k]) ∧
      Turn (Foot a vs vf) w (w1.setCell ⟨a, 2, none⟩ (.slice (some ⟨g, 0, none⟩) (n + 1) c)) ∧ ∀ j, Foot a vs (.slice (some ⟨g, 0, none⟩) (n + 1) c) j → Foot a vs vf j ∨ w.heap.size ≤ j := by
  have hT : Turn (fun j => vf.ownBlock = some j) w w1 := ((Turn.refl _ w).alloc o).grown hgrow (fun k hk => .inl hk)
  have hA := hT.heap h.head (ne_own h.freed h.head (by decide))
  have hne := ne_own hown hA (by decide)
  have h4 := hT.own h.places (fun k hk hk' => ne_own2 h.places h.freed (by decide) hk hk')
  refine ⟨hA, ⟨?_, own_past h4 (ne_own h4 hA (by decide)) _, ?_⟩, (hT.mono (fun k hk => .inl (.inr (.inr hk)))).setCell (p := ⟨a, 2, none⟩) (.inl (.inl rfl)) _, fun j hj => ?_⟩
  · have := set_at hA 2 (.slice (some ⟨g, 0, none⟩) (n + 1) c)
    simpa using this
  · have := own_past (a := ⟨a, 2, none⟩) hown hne (.slice (some ⟨g, 0, none⟩) (n + 1) c)
    have e : natsOf (fr ++ [k]) = natsOf fr ++ [.int .i64 (k : Nat)] := by simp [natsOf]
    rw [e]
    simpa [hn] using this
  · rcases hj with hj | hj | hj
    · exact .inl (.inl hj)
    · exact .inl (.inr (.inl hj))
    · simp [Value.ownBlock] at hj
      subst hj
      rcases hat with h | h
      · exact .inl (.inr (.inr h))
      · right; omega
theorem ok_cleared (hc : cap ≤ 65536) {n : Nat} (hn : n ≤ cap) : TOK cap (List.replicate n Pl.none) (List.range n) := by
  refine ⟨hc, by simpa using hn, fun k => ?_, List.nodup_range, ?_, fun k p hp => ?_⟩
  · rw [List.mem_range, List.getElem?_replicate]
    constructor
    · intro h; exact ⟨Pl.none, by rw [if_pos h], rfl⟩
    · rintro ⟨p, hp, -⟩
      split at hp
      · assumption
      · simp at hp
  · intro c h0 hc'
    rw [List.length_range] at hc'
    simp only [List.getD, List.getElem?_range hc', List.getElem?_range (show (c - 1) / 2 < n by omega), Option.getD_some]
    omega
  · rw [List.getElem?_replicate] at hp
    split at hp
    · simp at hp; exact .inl hp.symm
    · simp at hp
end

def clearL (L : List Pl) : List Pl := List.replicate L.length Pl.none

/-- What Clear keeps: the entries that were told, what turns. -/
structure CInv (w0 w : World) (v : Value) (es : List Ent) (P Q : Nat → Prop) : Prop where
  ents : Ents v es w
  fresh : ∀ j, Blk v j → w0.heap.size ≤ j
  turn : Turn P w0 w
  sub : ∀ j, Q j → P j ∨ w0.heap.size ≤ j
  ap : ∀ j, Q j → ¬ Blk v j
theorem CInv.step {w0 w w' : World} {v : Value} {es : List Ent} {P Q Q' : Nat → Prop} (h : CInv w0 w v es P Q) (t : Turn Q w w') (hs : ∀ j, Q' j → Q j ∨ w.heap.size ≤ j) : CInv w0 w' v es P Q' := by
  have h1 := h.turn.size
  refine ⟨(own_ents _ _).kept _ _ _ h.ents t (fun j hj hq => h.ap j hq hj), h.fresh, h.turn.trans t h.sub, fun j hj => ?_, fun j hj hb => ?_⟩
  · rcases hs j hj with h2 | h2
    · exact h.sub j h2
    · right; omega
  · rcases hs j hj with h2 | h2
    · exact h.ap j h2 hb
    · have := (own_ents _ _).lt w h.ents j hb; omega

theorem clear_start {w w2 w3 : World} {a cap : Nat} {vs vf v v' : Value} {es : List Ent} {ps : List Pl} {fr : List Nat} (h1 : Ents v es w2) (h2 : ∀ j, Blk v j → w.heap.size ≤ j) (h3 : Turn NoBlock w w2) (hlt : ∀ j, Foot a vs vf j → j < w.heap.size)
    (h4 : TMem w3 a vs vf cap ps fr) (h5 : Turn (Foot a vs vf) w2 w3) (h6 : ∀ w, TMem w a vs vf cap ps fr → w.ownsRow 0 3 1 v' 0 []) (h7 : ∀ k, v'.ownBlock = some k → vf.ownBlock = some k) {P0 : Nat → Prop} (hP : Foot a vs vf = P0) :
    TMem (w3.setCell ⟨a, 2, none⟩ v') a vs v' cap ps [] ∧ CInv w (w3.setCell ⟨a, 2, none⟩ v') v es P0 (Foot a vs v') := by
  subst hP
  obtain ⟨g1, g2, g3⟩ := h4.freedNil (h6 _ h4) h7
  have c0 : CInv w w2 v es (Foot a vs vf) (Foot a vs vf) := ⟨h1, h2, h3.mono (fun _ h => h.elim), fun j hj => .inl hj, fun j hj hb => by have := hlt j hj; have := h2 j hb; omega⟩
  exact ⟨g1, (c0.step h5 (fun j hj => .inl hj)).step g2 (fun j hj => .inl (g3 j hj))⟩

set_option maxRecDepth 20000 in
set_option maxHeartbeats 4000000 in
theorem clear_mem {w : World} {a cap : Nat} {vs vf : Value} {ps : List Pl} {fr : List Nat} (h : TMem w a vs vf cap ps fr) (ok : TOK cap ps fr) :
    Calls Try.prog 39 #[.pointer (some ⟨a, 0, none⟩)] w fun e w' => ∃ v vf', e = .returned v ∧ TMem w' a vs vf' cap (List.replicate ps.length Pl.none) (List.range ps.length) ∧ CInv w w' v ((takenL ps).map (·.e)) (Foot a vs vf) (Foot a vs vf') := by
  obtain ⟨iv, hiv, hvz0, hvz1, hvz2⟩ := info_parts info3
  have cE := entries_any (F := Foot a vs vf) (L := padL cap ps) ⟨vs, vf, cap, ps, fr, h, ok, rfl, rfl⟩
  rw [taken_pad] at cE
  have htop : ps.length ≤ 65536 := by have := ok.len; have := ok.top; omega
  obtain ⟨n, hn⟩ : ∃ n, ps.length = n := ⟨_, rfl⟩
  rw [hn] at htop ⊢
  obtain ⟨pp, cp, hvs⟩ := own_slice h.places
  rw [hn] at hvs
  obtain ⟨pf, cf, hvf⟩ := own_slice h.freed
  have HN := Lib.hid hn
  have HM := Lib.hid h
  have HLt := Lib.hid (fun j (hj : Foot a vs vf j) => Foot.lt h hj)
  generalize (takenL ps).map (·.e) = es at *
  obtain ⟨fl, hfl⟩ : ∃ fl, fr.length = fl := ⟨_, rfl⟩
  rw [hfl] at hvf
  have HFl := Lib.hid hfl
  subst hvs hvf
  clear h ok hn hfl
  have hsh : (pf = none ∧ fl = 0 ∧ cf = 0 ∧ Hid ((∀ w ps, TMem w a (.slice pp n cp) (.slice pf fl cf) cap ps fr → w.ownsRow 0 3 1 (.slice none 0 0) 0 []) ∧ ∀ k, (Value.slice none 0 0).ownBlock = some k → (Value.slice pf fl cf).ownBlock = some k)) ∨
      ∃ g, pf = some ⟨g, 0, none⟩ ∧ fl ≤ cf ∧ cf ≤ 9223372036854775807 ∧ Hid ((∀ w ps, TMem w a (.slice pp n cp) (.slice pf fl cf) cap ps fr → w.ownsRow 0 3 1 (.slice (some ⟨g, 0, none⟩) 0 cf) 0 []) ∧ ∀ k, (Value.slice (some ⟨g, 0, none⟩) 0 cf).ownBlock = some k → (Value.slice pf fl cf).ownBlock = some k) := by
    have := HM.out.freed
    rw [HFl.out] at this
    rcases this.2 with ⟨h1, h2⟩ | ⟨g, cap', cur, h1, -, -, h2, h3, -⟩
    · simp at h1; exact .inl ⟨h1.1, h1.2.1, h1.2.2, Lib.hid ⟨fun w ps _ => World.ownsRow_nil _ _ _ _, fun k hk => by simp [Value.ownBlock] at hk⟩⟩
    · simp at h1
      obtain ⟨h4, h5⟩ := h1
      subst h5 h4
      refine .inr ⟨g, rfl, h2, h3, Lib.hid ⟨fun w ps hm => ?_, fun k hk => by simpa [Value.ownBlock] using hk⟩⟩
      have h6 := hm.freed
      rw [HFl.out] at h6
      simpa using own_head h6 (Nat.zero_le _)
  generalize hP0 : Foot a (.slice pp n cp) (.slice pf fl cf) = P0
  have HP0 := Lib.hid hP0
  clear hP0
  rcases hsh with ⟨rfl, rfl, rfl, HV0⟩ | ⟨gf, rfl, hf1, hf2, HV0⟩
  all_goals
    go_enter Try.func39, Try.ntmps39
    go_wp2_with (first
      | (go_at_call 16; (with_reducible refine cE.mono ?_); rintro y w2 ⟨v, rfl, h2, l2, t2⟩; have K0 := Lib.hid (And.intro h2 (And.intro l2 t2)); have HM1 := Lib.hid (HM.out.past t2); have c1 := HM1.out.c1; obtain ⟨w3, hcl, hM3, t3⟩ := TMem.clears HM1.out HN.out; have HM3 := Lib.hid (And.intro hM3 t3); have d0 := hM3.c0; have d1 := hM3.c1; have d2 := hM3.c2; have d3 := hM3.f; clear h2 l2 t2 hM3 t3))
    have Z0 := Lib.hid (clear_start K0.out.1 K0.out.2.1 K0.out.2.2 HLt.out HM3.out.1 HM3.out.2 (fun w h => HV0.out.1 w _ h) HV0.out.2 HP0.out)
    go_loopg [4, 24] n (fun g s4 s24 wr => ∃ (k : Nat) (vf' : Value), g = n - k ∧ k ≤ n ∧ s24 = .int .i64 k ∧ Hid (TMem wr a (.slice pp n cp) vf' cap (List.replicate n Pl.none) (List.range k)) ∧ Hid (CInv w wr v es P0 (Foot a (.slice pp n cp) vf')))
    case atStart => exact ⟨0, _, by omega, by omega, rfl, Lib.hid Z0.out.1, Lib.hid Z0.out.2⟩
    case round =>
      obtain ⟨k, vf', hg, hk, rfl, HT, HC⟩ := hrel
      by_cases hlt : k < n
      · have e2 := HT.out.c2
        have e3 := HT.out.f
        have hfo := HT.out.freed
        rw [List.length_range] at hfo
        obtain ⟨p1, cc, rfl⟩ := own_slice hfo
        have alt := World.block_lt_of_cell? _ _ e2
        obtain ⟨xs, hxs⟩ : ∃ xs, natsOf (List.range k) = xs := ⟨_, rfl⟩
        rw [hxs] at hfo
        have HX := Lib.hid hxs
        clear hxs
        have q2 : ∀ u ∈ [Value.int .i64 (k : Int)], u.oneCell' = true := by
          intro u hu
          simp at hu
          subst hu
          rfl
        have q3 : k + 1 ≤ maxLen := by unfold maxLen; omega
        have q4 : (k + 1) * 8 ≤ 140737488355328 := by omega
        go_wp2_with (at_builtin; refine wpList_append_lies _ rfl (.tmp 31) (.tmp 33) 70 rfl 0 3 iv _ 1 8 ints70 hiv hvz0 hvz1 hvz2 rfl (by decide) (.slice p1 k cc) k xs rfl (World.ownsRow.alloc hfo _) ⟨wr.heap.size, 0, none⟩ 1 1 [.int .i64 (k : Int)] rfl rfl (fun j u hu => World.news_of_block (heap_alloc_new wr _) j u (by simpa using hu)) q2 (by decide) q3 q4 (Nat.zero_le _) (wr.heap.size + 1) (by simp) ?_; intro g3 c3 w4 hown hgrow hat hlt3; rw [← HX.out] at hown; obtain ⟨f1, f2, f3, f4⟩ := HT.out.freeGrow List.length_range hown hgrow hat; have y2 := cell_at f1 2; have y3 := free_at f1; simp at y2; have K2 := Lib.hid (And.intro f2 (CInv.step HC.out f3 f4)); clear hown hgrow hat f1 f2 f3 f4)
        go_roundg (n - (k + 1))
        case measure => omega
        case rel => exact ⟨k + 1, _, by omega, by omega, by go_num, Lib.hid (by rw [List.range_succ]; exact K2.out.1), Lib.hid K2.out.2⟩
      · obtain rfl : k = n := by omega
        go_wp2
        go_ret
        exact ⟨v, vf', rfl, HT.out, HC.out⟩

theorem clear_any {w : World} {a : Nat} {F : Nat → Prop} {L : List Pl} (h : TableAt w a F L) :
    Calls Try.prog 39 #[.pointer (some ⟨a, 0, none⟩)] w fun e w' => ∃ v, e = .returned v ∧ ∃ F', TableAt w' a F' (clearL L) ∧ CInv w w' v ((takenL L).map (·.e)) F F' := by
  obtain ⟨vs, vf, cap, ps, fr, hM, ok, rfl, rfl⟩ := h
  have hlen := ok.len
  refine (clear_mem hM ok).mono ?_
  rintro e w' ⟨v, vf', rfl, h1, h2⟩
  rw [taken_pad]
  refine ⟨v, rfl, _, ⟨_, _, cap, _, _, h1, ok_cleared ok.top hlen, rfl, ?_⟩, h2⟩
  unfold clearL padL
  rw [List.length_append, List.length_replicate, List.length_replicate, List.replicate_append_replicate]
end Go.Proofs.Ytacdhlhkpdlekaa
