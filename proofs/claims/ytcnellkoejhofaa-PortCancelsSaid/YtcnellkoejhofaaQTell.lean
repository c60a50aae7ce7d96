/-
  Forget and Tell in a law's state. No conditions but that the numbers are of 64 bits.
-/
import Derived.Test.YtcnellkoejhofaaQDrop2
import Derived.Deep.LoopGhost
namespace Go.Proofs.Ytcnellkoejhofaa
open Go.ChangeShapes Go.WideShapes Go.ChangeAt Go.RowKit

def frgL (Ws : List Wc) (o : Int) : List Wc := dropW Ws o (fun _ => true)
def frgN (Ws : List Wc) (o : Int) : Nat := goneN Ws o (fun _ => true)
def telL (Ws : List Wc) (o s : Int) : List Wc := dropW Ws o (fun t => meetB t.m s)
def telN (Ws : List Wc) (o s : Int) : Nat := goneN Ws o (fun t => meetB t.m s)
/-- The packets of watches that fire. -/
def packs (l : List Wc) (o s : Int) : List Pk := (l.filter (fun t => meetB t.m s)).map (fun t => ⟨t.k, o, s⟩)
theorem packs_len (l : List Wc) (o s : Int) : (packs l o s).length = (l.filter (fun t => meetB t.m s)).length := List.length_map _
theorem packs_add (l : List Wc) (o s : Int) (t : Wc) : packs (l ++ [t]) o s = packs l o s ++ if meetB t.m s = true then [⟨t.k, o, s⟩] else [] := by
  unfold packs
  rw [List.filter_append, List.map_append]
  cases h : meetB t.m s <;> simp [h]
theorem usersN_packs (Q : List Pk) (l : List Wc) (o s : Int) (ho : 1 ≤ o) : usersN (Q ++ packs l o s) = usersN Q := by
  unfold usersN packs
  rw [List.countP_append]
  have : List.countP (fun p : Pk => p.s == 0) ((l.filter (fun t => meetB t.m s)).map (fun t => (⟨t.k, o, s⟩ : Pk))) = 0 := by
    rw [List.countP_eq_zero]
    intro p hp
    obtain ⟨t, _, rfl⟩ := List.mem_map.1 hp
    simp
    omega
  omega
theorem ofO_none {Ws : List Wc} (hW : ∀ t ∈ Ws, 1 ≤ t.o) {o : Int} (ho : ¬ 1 ≤ o) : ofO Ws o = [] := by
  unfold ofO
  rw [List.filter_eq_nil_iff]
  intro t ht h
  have h1 := hW t ht
  simp at h
  omega
section
variable {w0 w w' : World} {c b : Nat} {depth most : Int} {Q Q' : List Pk} {Ws Ws' : List Wc} {v v' : Value} {V V' : Int → Value} {K K' : List Int} {X Y : Nat → Prop}
theorem pok_drop (ok : POk depth most Q Ws) (o : Int) (P : Wc → Bool) : POk depth most Q (dropW Ws o P) := by
  have := dropW_len Ws o P
  have := ok.fired
  exact ⟨ok.dep, ok.mst, ok.users, by omega, fun t ht => by
    unfold dropW at ht
    exact ok.objs t (List.mem_filter.1 ht).1⟩
theorem PSt.forget (h : PSt w0 w c depth most Q Ws X) (o : Int) (ho : fit o) : Calls Try.prog 21 #[.pointer (some ⟨c, 0, none⟩), .int .i64 o] w fun x w' => x = .returned (.int .i64 (frgN Ws o : Int)) ∧ PSt w0 w' c depth most Q (frgL Ws o) X ∧ Kp X w w' := by
  obtain ⟨v, b, V, K, h1, h4, h5⟩ := h.ex
  have HF := Lib.hid (And.intro h (And.intro h1 (And.intro h4 h5)))
  have CD := Lib.hid (h1.drop h.ok.wlen o ho 35 #[] (fun _ => true) Try.call35 (fun W t _ => clos_forget W t))
  clear h h1 h4 h5
  go_enter Try.func21, Try.ntmps21
  go_wp2_with (go_at_call 32; (with_reducible refine CD.out.mono ?_); rintro x w2 ⟨rfl, hx⟩; have HX := Lib.hid hx; clear hx)
  go_ret
  obtain ⟨V', K', hP, hT, hV⟩ := HX.out
  obtain ⟨hF, j1, j4, j5⟩ := HF.out
  exact ⟨rfl, pst_made hF j1 j4 j5 hP (pok_drop hF.ok o _) (fun _ hk => .inl hk) (fun i j hj => .inl (hV i j hj)) hT⟩
theorem telN_eq (Ws : List Wc) (o s : Int) : telN Ws o s = (packs (ofO Ws o) o s).length := by rw [packs_len]; rfl
/-- What stands while the watches are gone through. -/
structure TL (w0 wr : World) (c : Nat) (depth most : Int) (v : Value) (u : Int) (b : Nat) (n : Int) (Qj : List Pk) : Prop where
  ex : ∃ v', Hd wr c depth most v' u b n ∧ PRow v' Qj wr ∧ ∀ k, Blk v' k → Blk v k ∨ w0.heap.size ≤ k
  turn : Turn (fun k => k = c ∨ Blk v k) w0 wr
theorem TL.past {u n : Int} {Qj : List Pk} (h : TL w w0 c depth most v u b n Qj) (t : Turn NoBlock w0 w') : TL w w' c depth most v u b n Qj := by
  obtain ⟨v', h1, h2, h3⟩ := h.ex
  exact ⟨⟨v', h1.past t, h2.past t, h3⟩, h.turn.trans t (fun _ h => h.elim)⟩
theorem TL.add {u n : Int} {Qj : List Pk} (h : TL w w0 c depth most v u b n Qj) (p : Pk) (hq : Qj.length ≤ 1000000) :
    Calls Try.prog 27 #[.pointer (some ⟨c, 0, none⟩), p.agg] w0 fun x w' => x = .returned (.tuple #[]) ∧ TL w w' c depth most v u b n (Qj ++ [p]) := by
  obtain ⟨v', h1, h2, h3⟩ := h.ex
  refine (add_any h1 h2 p hq).mono ?_
  rintro x w2 ⟨rfl, v2, g1, g2, g3, g4⟩
  refine ⟨rfl, ⟨v2, g1, g2, fun k hk => ?_⟩, h.turn.trans g4 (fun k hk => ?_)⟩
  · rcases g3 k hk with h5 | h5
    · exact h3 k h5
    · exact .inr (Nat.le_trans h.turn.size h5)
  · rcases hk with hk | hk
    · exact .inl (.inl hk)
    · exact (h3 k hk).imp .inr id
set_option maxRecDepth 20000 in
set_option maxHeartbeats 2000000 in
theorem PSt.tell (h : PSt w0 w c depth most Q Ws X) (o s : Int) (ho : fit o) : Calls Try.prog 17 #[.pointer (some ⟨c, 0, none⟩), .int .i64 o, .int .i64 s] w fun x w' => x = .returned (.int .i64 (telN Ws o s : Int)) ∧ PSt w0 w' c depth most (Q ++ packs (ofO Ws o) o s) (telL Ws o s) X ∧ Kp X w w' := by
  obtain ⟨v, b, V, K, h1, h4, h5⟩ := h.ex
  have HF := Lib.hid (And.intro h (And.intro h1 (And.intro h4 h5)))
  obtain ⟨W0, hW0⟩ : ∃ W0, w.alloc (.cells #[.int .i64 s] 46) = W0 := ⟨_, rfl⟩
  have t0 : Turn NoBlock w W0 := by rw [← hW0]; exact (Turn.refl _ w).alloc _
  have hbx : W0.cell? ⟨w.heap.size, 0, none⟩ = some (.int .i64 s) := by rw [← hW0]; exact World.cell?_alloc_new w _ _ 0
  have g1 := h1.past t0
  have hlook := g1.wm.look ho
  have c4 := g1.hd.c4
  obtain ⟨p, cap, hv⟩ := WRow.sl (g1.wm.rows o)
  have hn : (ofO Ws o).length ≤ 65536 := Nat.le_trans (ofO_len Ws o) h.ok.wlen
  obtain ⟨n, hne⟩ : ∃ n, (ofO Ws o).length = n := ⟨_, rfl⟩
  rw [hv, hne] at hlook
  rw [hne] at hn
  have hB : w.heap.size ≠ c ∧ ¬ Blk v w.heap.size := ⟨by have := h1.hd.typ.lt; omega, fun hk => by have := WRow.lt h1.row hk; omega⟩
  have HROW := Lib.hid (fun W (t : Turn (fun k => k = c ∨ Blk v k) W0 W) => show ARow (.slice p n cap) (ofO Ws o) W ∧ W.cell? ⟨w.heap.size, 0, none⟩ = some (.int .i64 s) ∧ w.heap.size < W.heap.size from by
    refine ⟨?_, t.cell hbx (fun hk => hk.elim hB.1 hB.2), ?_⟩
    · have := (g1.wm.rows o).kept t (fun k hk hk' => hk'.elim (fun e => g1.cw o (e ▸ hk)) (fun hv' => g1.vw hv' (.inr ⟨o, hk⟩)))
      rw [hv, hne] at this
      exact this
    · have e1 : W0.heap.size = w.heap.size + 1 := by rw [← hW0]; simp
      have := t.size
      omega)
  have HT0 := Lib.hid (show TL W0 W0 c depth most v (usersN Q : Int) b (Ws.length : Int) (Q ++ packs ((ofO Ws o).take 0) o s) from ⟨⟨v, g1.hd, by simpa [packs] using g1.row, fun k hk => .inl hk⟩, Turn.refl _ _⟩)
  have HN := Lib.hid hne
  have HT := Lib.hid t0
  have hql := h.ok.qlen
  have HQ := Lib.hid hql
  have HO := Lib.hid ho
  clear h h1 h4 h5 t0 hbx g1 hv hne hB hql ho
  go_enter Try.func17, Try.ntmps17
  go_wp2
  go_loopg [18] n (fun z s18 wr => ∃ j : Nat, z = n - j ∧ j ≤ n ∧ s18 = .int .i64 (j : Int) ∧ Hid (TL W0 wr c depth most v (usersN Q : Int) b (Ws.length : Int) (Q ++ packs ((ofO Ws o).take j) o s)))
  case atStart => exact ⟨0, rfl, Nat.zero_le _, rfl, HT0⟩
  case round =>
    obtain ⟨j, hz, hj, rfl, HL⟩ := hrel
    by_cases hjn : j < n
    · obtain ⟨t, ht⟩ : ∃ t, (ofO Ws o)[j]? = some t := ⟨_, List.getElem?_eq_getElem (by rw [HN.out]; exact hjn)⟩
      obtain ⟨hr, hb, hbl⟩ := HROW.out wr HL.out.turn
      have hts : (ofO Ws o).take (j + 1) = (ofO Ws o).take j ++ [t] := by rw [List.take_add_one, ht]; rfl
      have hpa := packs_add ((ofO Ws o).take j) o s t
      rw [← hts] at hpa
      have hqj : (Q ++ packs ((ofO Ws o).take j) o s).length ≤ 1000000 := by
        have h1 := HQ.out
        have h2 : (packs ((ofO Ws o).take j) o s).length ≤ 65536 := by
          rw [packs_len]
          have := List.length_filter_le (fun t : Wc => meetB t.m s) ((ofO Ws o).take j)
          rw [List.length_take] at this
          omega
        rw [List.length_append]
        omega
      obtain ⟨g', o', c', he, -⟩ := WRow.shape hr (by rw [HN.out]; omega)
      simp only [Value.slice.injEq] at he
      obtain ⟨rfl, -, rfl⟩ := he
      obtain ⟨d0, d1⟩ := hr.two ht
      have tb : Turn NoBlock wr (wr.alloc (.cells #[.int .i64 t.k, .int .i64 t.m] 66)) := (Turn.refl _ _).alloc _
      have cC := show Calls Try.prog 30 #[.agg #[.int .i64 t.k, .int .i64 t.m], .pointer (some ⟨w.heap.size, 0, none⟩)] (wr.alloc (.cells #[.int .i64 t.k, .int .i64 t.m] 66)) (fun e w' => e = .returned (.bool (meetB t.m s)) ∧ Turn NoBlock (wr.alloc (.cells #[.int .i64 t.k, .int .i64 t.m] 66)) w') from clos_tell _ t w.heap.size s (tb.cell hb (fun h => h))
      have HB := Lib.hid (fun W (tW : Turn NoBlock (wr.alloc (.cells #[.int .i64 t.k, .int .i64 t.m] 66)) W) => And.intro (tW.cell (World.cell?_alloc_new wr #[.int .i64 t.k, .int .i64 t.m] 66 0) (fun h => h)) (tW.cell (tb.cell hb (fun h => h)) (fun h => h)))
      have CA := Lib.hid (fun W (tW : Turn NoBlock (wr.alloc (.cells #[.int .i64 t.k, .int .i64 t.m] 66)) W) => show Calls Try.prog 27 #[.pointer (some ⟨c, 0, none⟩), .agg #[.int .i64 t.k, .int .i64 o, .int .i64 s]] W (fun x w' => x = .returned (.tuple #[]) ∧ TL W0 w' c depth most v (usersN Q : Int) b (Ws.length : Int) (Q ++ packs ((ofO Ws o).take j) o s ++ [⟨t.k, o, s⟩])) from (HL.out.past (TT tb tW)).add ⟨t.k, o, s⟩ hqj)
      have hji : (j : Int) < n := by omega
      have HX := Lib.hid (And.intro hpa hqj)
      cases hm : meetB t.m s with
      | false =>
        rw [hm] at cC
        simp only [hm] at hpa
        have HX2 := Lib.hid hpa
        clear hr hb hts hpa hqj ht hm
        go_wp2_with (go_at_call 30; (with_reducible refine cC.mono ?_); rintro e w2 ⟨rfl, t2⟩; have T2 := Lib.hid t2; clear t2)
        go_roundg (n - (j + 1))
        case measure => omega
        case rel => exact ⟨j + 1, rfl, by omega, by go_num, Lib.hid (by rw [HX2.out]; simpa using HL.out.past (TT tb T2.out))⟩
      | true =>
        rw [hm] at cC
        simp only [hm] at hpa
        have HX2 := Lib.hid hpa
        clear hr hb hts hpa ht hm
        go_wp2_with (first
          | (go_at_call 30; (with_reducible refine cC.mono ?_); rintro e w2 ⟨rfl, t2⟩; have T2 := Lib.hid t2; obtain ⟨b0, b1⟩ := HB.out _ t2; clear t2)
          | (go_at_call 27; (with_reducible refine (CA.out _ T2.out).mono ?_); rintro e w3 ⟨rfl, t3⟩; have T3 := Lib.hid t3; clear t3))
        go_roundg (n - (j + 1))
        case measure => omega
        case rel => exact ⟨j + 1, rfl, by omega, by go_num, Lib.hid (by rw [HX2.out]; simpa using T3.out)⟩
    · obtain rfl : j = n := by omega
      obtain ⟨hF, j1, j4, j5⟩ := HF.out
      obtain ⟨v', hd', hr', hb'⟩ := HL.out.ex
      have ht' := HL.out.turn
      rw [List.take_of_length_le (by rw [HN.out]; exact Nat.le_refl _)] at hr'
      have hobj : 1 ≤ o ∨ ofO Ws o = [] := by
        by_cases h0 : 1 ≤ o
        · exact .inl h0
        · exact .inr (ofO_none hF.ok.objs h0)
      have husr : usersN (Q ++ packs (ofO Ws o) o s) = usersN Q := by
        rcases hobj with h0 | h0
        · exact usersN_packs Q _ o s h0
        · rw [h0]; simp [packs]
      have jj := j1.past HT.out
      have m2 : PM wr c depth most v' (Q ++ packs (ofO Ws o) o s) b V Ws K := ⟨by rw [husr]; exact hd', hr', jj.wm.kept ht' (fun k hk hk' => hk'.elim (fun e => jj.cf (e ▸ hk)) (fun hv => jj.vw hv hk))⟩
      have CD := Lib.hid (m2.drop hF.ok.wlen o HO.out 30 #[.pointer (some ⟨w.heap.size, 0, none⟩)] (fun t => meetB t.m s) Try.call30 (fun W t hT => clos_tell W t w.heap.size s (hT.cell (HROW.out wr ht').2.1 (fun hk => by
        have := m2.wm.lt (.inr ⟨o, hk⟩)
        have h9 := j1.wm.lt (.inr ⟨o, hk⟩)
        have h8 := (show w.heap.size < w.heap.size from h9)
        omega))))
      have HM := Lib.hid (And.intro hF (And.intro j1 (And.intro j4 (And.intro j5 (And.intro hb' (And.intro ht' husr))))))
      clear hF j1 j4 j5 hd' hr' hb' ht' hobj husr jj m2
      go_wp2_with (go_at_call 32; (with_reducible refine CD.out.mono ?_); rintro x w2 ⟨rfl, hx⟩; have HX := Lib.hid hx; clear hx)
      go_ret
      obtain ⟨V', K', hP, hT, hV⟩ := HX.out
      obtain ⟨hF, j1, j4, j5, hb', ht', husr⟩ := HM.out
      have hpk := packs_len (ofO Ws o) o s
      have hdl := dropW_len Ws o (fun t => meetB t.m s)
      refine ⟨rfl, pst_made hF j1 j4 j5 hP ⟨hF.ok.dep, hF.ok.mst, by rw [husr]; exact hF.ok.users, ?_, (pok_drop hF.ok o _).objs⟩ (fun k hk => (hb' k hk).imp id (fun e => Nat.le_trans HT.out.size e)) (fun i j hj => .inl (hV i j hj)) ?_⟩
      · rw [husr, List.length_append]
        have := hF.ok.fired
        unfold telL
        omega
      · have e1 : Turn (PFoot c v b V) w wr := (TU HT.out).trans (tu_foot (b := b) (V := V) ht') (fun _ h => .inl h)
        refine e1.trans hT (fun k hk => ?_)
        rcases hk with hk | hk | hk
        · exact .inl (.inl hk)
        · rcases hb' k hk with h6 | h6
          · exact .inl (.inr (.inl h6))
          · exact .inr (Nat.le_trans HT.out.size h6)
        · exact .inl (.inr (.inr hk))
end
end Go.Proofs.Ytcnellkoejhofaa
