/-
  What Set makes of the document's own timers. Conditions: none but that the list is one that calls can make.
-/
import Derived.Test.YtcbphfpfdfgehaaTRef
namespace Go.Proofs.Ytcbphfpfdfgehaa
open Go.ChangeShapes Go.WideShapes Go.ChangeAt Go.RowKit

theorem insE_no {e : En} {l : List En} (h : ∀ a ∈ l, ¬ cd e < cd a) : insE e l = l ++ [e] := by
  induction l with
  | nil => rfl
  | cons a r ih =>
    unfold insE
    rw [if_neg (h a List.mem_cons_self), ih (fun b hb => h b (List.mem_cons_of_mem _ hb))]
    rfl
theorem insE_yes {e : En} {l m : List En} (h : ∃ a ∈ l, cd e < cd a) : insE e (l ++ m) = insE e l ++ m := by
  induction l with
  | nil => obtain ⟨a, ha, -⟩ := h; cases ha
  | cons a r ih =>
    by_cases h1 : cd e < cd a
    · simp [insE, h1]
    · obtain ⟨b, hb, hlt⟩ := h
      rcases List.mem_cons.1 hb with rfl | hb
      · exact absurd hlt h1
      · simp [insE, h1, ih ⟨b, hb, hlt⟩]
theorem insE_first {e b : En} {l : List En} (h : ∀ a ∈ l, ¬ cd e < cd a) (hb : cd e < cd b) : insE e (l ++ [b]) = l ++ [e] ++ [b] := by
  induction l with
  | nil => simp [insE, hb]
  | cons a r ih =>
    have h1 := h a List.mem_cons_self
    have := ih (fun c hc => h c (List.mem_cons_of_mem _ hc))
    simp only [List.cons_append] at this ⊢
    unfold insE
    rw [if_neg h1, this]
/-- What stands in the new row: with the entry, or not yet. -/
structure Out (b : Bool) (e : En) (l : List En) (o : List En) : Prop where
  no : b = false → o = l ∧ ∀ a ∈ l, ¬ cd e < cd a
  yes : b = true → o = insE e l ∧ ∃ a ∈ l, cd e < cd a
theorem Out.start (e : En) : Out false e [] [] := ⟨fun _ => ⟨rfl, (fun a ha => by cases ha)⟩, (fun h => by cases h)⟩
theorem Out.skip {e a : En} {l o : List En} (h : Out false e l o) (ha : ¬ cd e < cd a) : Out false e (l ++ [a]) (o ++ [a]) := by
  obtain ⟨h1, h2⟩ := h.no rfl
  refine ⟨fun _ => ⟨by rw [h1], fun b hb => ?_⟩, (fun h => by cases h)⟩
  rcases List.mem_append.1 hb with hb | hb
  · exact h2 b hb
  · rw [List.mem_singleton] at hb
    rw [hb]; exact ha
theorem Out.put {e a : En} {l o : List En} (h : Out false e l o) (ha : cd e < cd a) : Out true e (l ++ [a]) (o ++ [e] ++ [a]) := by
  obtain ⟨h1, h2⟩ := h.no rfl
  refine ⟨(fun h => by cases h), fun _ => ⟨by rw [insE_first h2 ha, h1], a, by simp, ha⟩⟩
theorem Out.on {e a : En} {l o : List En} (h : Out true e l o) : Out true e (l ++ [a]) (o ++ [a]) := by
  obtain ⟨h1, b, hb, hlt⟩ := h.yes rfl
  exact ⟨(fun h => by cases h), fun _ => ⟨by rw [insE_yes ⟨b, hb, hlt⟩, h1], b, List.mem_append_left _ hb, hlt⟩⟩
theorem Out.done {e : En} {l o : List En} (h : Out true e l o) : o = insE e l := (h.yes rfl).1
theorem Out.end' {e : En} {l o : List En} (h : Out false e l o) : o ++ [e] = insE e l := by
  obtain ⟨h1, h2⟩ := h.no rfl
  rw [h1, insE_no h2]
/-- One more in the row. -/
theorem rrow_push {W : World} {v : Value} {l : List En} {e : En} {m : Nat} (hm : l.length = m) (r : WRow W 74 2 v (m + 1) (ecells (l.map flp) ++ #[Value.int .i64 e.d, Value.int .i64 e.k].toList)) : RRow v (l ++ [e]) W := by
  unfold RRow
  rw [List.length_append, hm, flp_app]
  exact r
theorem rrow_ready {W W' : World} {p : Option Addr} {m c : Nat} {l : List En} (h : RRow (.slice p m c) l W) (hm : l.length = m) (t : Turn NoBlock W W') : WRow W' 74 2 (.slice p m c) m (ecells (l.map flp)) := by
  have := h.past t
  unfold RRow at this
  rw [hm] at this
  exact this
section
variable {w : World} {x : Nat} {v : Value} {most now : Int} {L : List En}
set_option maxRecDepth 20000 in
set_option maxHeartbeats 4000000 in
theorem rset_any (h : RM w x v most now L) (hR : Right L) (hroom : L.length ≤ 65536) (k d : Int) (hk : fit k) (hd : fit d) :
    Calls Try.prog 24 #[.pointer (some ⟨x, 0, none⟩), .int .i64 k, .int .i64 d] w fun r w' => r = .returned (.tuple #[.bool (setB now d), .int .i64 (setS most now L k d)]) ∧ ∃ v', RM w' x v' most now (setL most now L k d) ∧ (∀ k, Blk v' k → Blk v k ∨ w.heap.size ≤ k) ∧ Turn (fun k => k = x) w w' := by
  obtain ⟨i5, hi5, hz5, hs5, hb5⟩ := info_parts infoR
  have HE := Lib.hid (And.intro hi5 (And.intro hz5 (And.intro hs5 hb5)))
  clear hi5 hz5 hs5 hb5
  have c0 := h.c0
  have c1 := h.c1
  have c2 := h.c2
  obtain ⟨p, c, rfl⟩ := WRow.sl h.row
  obtain ⟨i, hi⟩ : ∃ i, At L k i := ⟨_, at_ex L k⟩
  have CF := Lib.hid (fun W (t : Turn NoBlock w W) => rfind_any (h.past t) k i hi)
  have CD := Lib.hid (fun W (t : Turn NoBlock w W) => rdrop_any (h.past t) (fndI L i) i (fnd_hit hi.le))
  have HD := Lib.hid (hi.drop hR)
  have hhas := hi.has
  have HH := Lib.hid h
  have HW := Lib.hid (And.intro hk (And.intro hd hR))
  obtain ⟨f, hf⟩ : ∃ f, fndI L i = f := ⟨_, rfl⟩
  have hf2 : decide (f < 0) = !hasK L k := by
    rw [hhas, ← hf]
    unfold fndI
    by_cases h1 : i < L.length
    · rw [if_pos h1, decide_eq_true h1]; simp
    · rw [if_neg h1, decide_eq_false h1]; rfl
  rw [hf] at CF CD
  have hll := h.len
  unfold setB setS setL
  clear h hk hd hR hhas hf hi
  by_cases h1 : d ≤ now
  · rw [if_pos h1, if_pos h1, decide_eq_true h1]
    have H1 := Lib.hid h1
    generalize L.length = n at *
    go_enter Try.func24, Try.ntmps24
    go_wp2_with (first
      | (go_at_call 26; (with_reducible refine (CF.out _ (Turn.refl _ _)).mono ?_); rintro e w1 ⟨rfl, rfl⟩)
      | (go_at_call 27; (with_reducible refine (CD.out _ (Turn.refl _ _)).mono ?_); rintro e w2 ⟨rfl, v2, m2, b2, t2⟩; have M2 := Lib.hid (And.intro m2 (And.intro b2 t2)); clear m2 b2 t2))
    go_ret2
    exact ⟨rfl, v2, by rw [← HD.out]; exact M2.out.1, fun q hq => .inr (M2.out.2.1 q hq), M2.out.2.2⟩
  rw [if_neg h1, if_neg h1, decide_eq_false h1]
  by_cases h2 : 1099511627776 < d
  · rw [if_pos h2, if_pos h2]
    have H2 := Lib.hid (And.intro h1 h2)
    go_enter Try.func24, Try.ntmps24
    go_wp2_with (first
      | (go_at_call 26; (with_reducible refine (CF.out _ (Turn.refl _ _)).mono ?_); rintro e w1 ⟨rfl, rfl⟩))
    go_ret2
    exact ⟨rfl, _, HH.out, fun q hq => .inl hq, Turn.refl _ _⟩
  rw [if_neg h2, if_neg h2]
  by_cases h3 : hasK L k = false ∧ most ≤ L.length
  · rw [if_pos h3, if_pos h3]
    rw [h3.1] at hf2
    have hq : decide ((L.length : Int) ≥ most) = true := by simpa using h3.2
    have hq2 : decide (most ≤ (L.length : Int)) = true := by simpa using h3.2
    have H2 := Lib.hid (And.intro h1 h2)
    clear h3
    generalize L.length = n at *
    go_enter Try.func24, Try.ntmps24
    go_wp2_with (first
      | (go_at_call 26; (with_reducible refine (CF.out _ (Turn.refl _ _)).mono ?_); rintro e w1 ⟨rfl, rfl⟩))
    go_quiet (fail)
    go_wp2
    go_ret2
    exact ⟨rfl, _, HH.out.past ((Turn.refl _ _).drewN _), fun q hq => .inl hq, (Turn.refl _ _).drewN _⟩
  rw [if_neg h3, if_neg h3]
  cases hh : hasK L k with
  | true =>
    rw [hh] at hf2
    have L1d := HD.out
    obtain ⟨L1, hL1⟩ : ∃ L1, dropK L k = L1 := ⟨_, rfl⟩
    rw [L1d] at CD
    rw [hL1] at CD HD ⊢
    have HR1 := Lib.hid (show Right L1 from by rw [← hL1]; exact HW.out.2.2.drop k)
    have hl1 : L1.length ≤ 65536 := by rw [← hL1]; exact Nat.le_trans (List.length_filter_le _ _) (by omega)
    clear L1d hL1
    go_enter Try.func24, Try.ntmps24
    go_wp2_with (first
      | (go_at_call 26; (with_reducible refine (CF.out _ (Turn.refl _ _)).mono ?_); rintro e w1 ⟨rfl, rfl⟩))
    go_quiet (fail)
    go_wp2_with (first
      | (go_at_call 27; (with_reducible refine (CD.out _ ((Turn.refl _ _).drewN _)).mono ?_); rintro e w2 ⟨rfl, v2, m2, b2, t2⟩; have M2 := Lib.hid (And.intro m2 (And.intro b2 t2)); clear m2 b2 t2))
    have e0 := M2.out.1.c0
    have e2 := M2.out.1.c2
    obtain ⟨p2, c2', hv2⟩ := WRow.sl M2.out.1.row
    subst hv2
    obtain ⟨n1, hn1⟩ : ∃ n1, L1.length = n1 := ⟨_, rfl⟩
    rw [hn1] at e0 hl1 M2
    have HN1 := Lib.hid hn1
    have hxl := M2.out.1.typ.lt
    clear hn1
    go_loopg [9, 10, 11] n1 (fun z s9 s10 s11 wr => ∃ (j : Nat) (u : Value) (b : Bool) (o1 : List En), z = n1 - j ∧ j ≤ n1 ∧ s9 = u ∧ s10 = .bool b ∧ s11 = .int .i64 (j : Int) ∧ Hid (Turn NoBlock w2 wr ∧ RRow u o1 wr ∧ (∀ q, Blk u q → w2.heap.size ≤ q) ∧ Out b ⟨k, d⟩ (L1.take j) o1))
    case atStart => exact ⟨0, _, false, [], rfl, Nat.zero_le _, rfl, rfl, rfl, Lib.hid ⟨Turn.refl _ _, wrow_nil _ _ _, fun q hq => (blk_nil q hq).elim, Out.start _⟩⟩
    case round =>
      obtain ⟨j, u, b, o1, hz, hj, rfl, rfl, rfl, HU⟩ := hrel
      have d0 := HU.out.1.cell e0 (fun h => h)
      obtain ⟨pu, cu, hu⟩ := WRow.sl HU.out.2.1
      subst hu
      obtain ⟨m, hm⟩ : ∃ m, o1.length = m := ⟨_, rfl⟩
      have hml : m ≤ 65538 := by
        have h5 := HU.out.2.2.2
        have h6 := List.length_take_le j L1
        have : o1.length ≤ j + 1 := by
          cases b with
          | false => rw [(h5.no rfl).1]; omega
          | true => rw [(h5.yes rfl).1, (insE_perm _ _).length_eq, List.length_cons]; omega
        omega
      rw [hm] at HU ⊢
      have HM := Lib.hid hm
      have HB := Lib.hid (And.intro (show m + 1 ≤ maxLen by unfold maxLen; omega) (show (m + 1) * 16 ≤ 140737488355328 by omega))
      have HB2 := Lib.hid (And.intro (show m + 1 + 1 ≤ maxLen by unfold maxLen; omega) (show (m + 1 + 1) * 16 ≤ 140737488355328 by omega))
      obtain ⟨hi5, hz5, hs5, hb5⟩ := HE.out
      have HHI := Lib.hid (And.intro hi5 (And.intro hz5 (And.intro hs5 hb5)))
      clear hm hi5 hz5 hs5 hb5
      by_cases hlt : j < n1
      · obtain ⟨a, he⟩ : ∃ a, L1[j]? = some a := ⟨_, List.getElem?_eq_getElem (by rw [HN1.out]; exact hlt)⟩
        have hfa := HR1.out.fits a (List.mem_of_getElem? he)
        obtain ⟨ak, ad⟩ := a
        have HTK := Lib.hid (show L1.take (j + 1) = L1.take j ++ [⟨ak, ad⟩] from by rw [List.take_add_one, he]; rfl)
        obtain ⟨g, o, rfl, q0, q1⟩ := (M2.out.1.row.past HU.out.1).two he
        simp only at q0 q1
        have hjn : (j : Int) < (n1 : Int) := by omega
        have hcl := cd_lt (a := ⟨k, d⟩) (b := ⟨ak, ad⟩) ⟨HW.out.1, HW.out.2.1⟩ hfa
        have HRO1 := Lib.hid (rrow_ready HU.out.2.1 HM.out (((Turn.refl NoBlock wr).alloc (.cells #[.int .i64 ad, .int .i64 ak] 74)).alloc (.cells #[.int .i64 ad, .int .i64 ak] 74)))
        have HRO2 := Lib.hid (rrow_ready HU.out.2.1 HM.out (((Turn.refl NoBlock wr).alloc (.cells #[.int .i64 ad, .int .i64 ak] 74)).alloc (.cells #[.int .i64 d, .int .i64 k] 74)))
        have HSR1 := Lib.hid (Rd.src (rd_new (wr.alloc (.cells #[.int .i64 ad, .int .i64 ak] 74)) 74 2 #[.int .i64 ad, .int .i64 ak] rfl) 57 74 resT (ecells_one [⟨ad, ak⟩]))
        have HSR2 := Lib.hid (Rd.src (rd_new (wr.alloc (.cells #[.int .i64 ad, .int .i64 ak] 74)) 74 2 #[.int .i64 d, .int .i64 k] rfl) 57 74 resT (ecells_one [⟨d, k⟩]))
        rw [World.size_alloc] at HSR1 HSR2
        have hbx : ∀ q, Blk (.slice pu m cu) q → q < wr.heap.size := fun q hq => WRow.lt HU.out.2.1 hq
        clear he hfa
        cases b with
        | true =>
          clear hcl
          go_wp2_with (first
            | (at_builtin; refine wpList_append_w rfl (.tmp 86) (.tmp 88) 57 57 rfl HRO1.out i5 _ 16 resT HHI.out.1 HHI.out.2.1 HHI.out.2.2.1 HHI.out.2.2.2 rfl rfl rfl HSR1.out HB.out.1 HB.out.2 ?_; intro v7 W7 r7 t7 k7; have R7 := Lib.hid (And.intro r7 (And.intro t7 k7)); clear r7 t7 k7))
          go_roundg (n1 - (j + 1))
          case measure => omega
          case rel =>
            refine ⟨j + 1, v7, true, _, rfl, by omega, rfl, rfl, by go_num, Lib.hid ⟨?_, rrow_push HM.out R7.out.1, fun q hq => ?_, by rw [HTK.out]; exact HU.out.2.2.2.on⟩⟩
            · exact ((HU.out.1.alloc _).alloc _).trans R7.out.2.1 (fun q hq => .inr (HU.out.2.2.1 q hq))
            · rcases R7.out.2.2 q hq with h1 | h1
              · exact HU.out.2.2.1 q h1
              · rw [h1.1, World.size_alloc, World.size_alloc]; have := HU.out.1.size; omega
        | false =>
          unfold befE at hcl
          simp only at hcl
          by_cases hput : d < ad ∨ d = ad ∧ k < ak
          · have HC := Lib.hid (hcl.2 hput)
            have BX := Lib.hid (fun (W6 : World) (t6 : Turn (Blk (.slice pu m cu)) ((wr.alloc (.cells #[.int .i64 ad, .int .i64 ak] 74)).alloc (.cells #[.int .i64 d, .int .i64 k] 74)) W6) => show W6.cell? ⟨wr.heap.size, 0, none⟩ = some (.int .i64 ad) ∧ W6.cell? ⟨wr.heap.size, 1, none⟩ = some (.int .i64 ak) from by
              have ta := (Turn.refl NoBlock (wr.alloc (.cells #[.int .i64 ad, .int .i64 ak] 74))).alloc (.cells #[.int .i64 d, .int .i64 k] 74)
              have hno : ¬ Blk (.slice pu m cu) wr.heap.size := fun hq => by have := hbx _ hq; omega
              exact ⟨t6.cell (ta.cell (World.cell?_alloc_new wr _ _ 0) (fun h => h)) hno, t6.cell (ta.cell (World.cell?_alloc_new wr _ _ 1) (fun h => h)) hno⟩)
            have HK6 := Lib.hid (fun (W6 : World) (v6 : Value) (k6 : ∀ q, Blk v6 q → Blk (.slice pu m cu) q ∨ (q = ((wr.alloc (.cells #[.int .i64 ad, .int .i64 ak] 74)).alloc (.cells #[.int .i64 d, .int .i64 k] 74)).heap.size ∧ q < W6.heap.size)) (q : Nat) (hq : Blk v6 q) => show w2.heap.size ≤ q from by
              rcases k6 q hq with h1 | h1
              · exact HU.out.2.2.1 q h1
              · rw [h1.1, World.size_alloc, World.size_alloc]; have := HU.out.1.size; omega)
            have hbl : wr.heap.size < ((wr.alloc (.cells #[.int .i64 ad, .int .i64 ak] 74)).alloc (.cells #[.int .i64 d, .int .i64 k] 74)).heap.size := by rw [World.size_alloc, World.size_alloc]; omega
            rcases hput with hp | ⟨hp, hp2⟩
            · clear hcl hbx
              have g1 : decide (d < ad) = true := by simpa using hp
              go_wp2_with (first
                | (at_builtin; refine wpList_append_w rfl (.tmp 80) (.tmp 84) 57 57 rfl HRO2.out i5 _ 16 resT HHI.out.1 HHI.out.2.1 HHI.out.2.2.1 HHI.out.2.2.2 rfl rfl rfl HSR2.out HB.out.1 HB.out.2 ?_; intro v6 W6 r6 t6 k6; obtain ⟨p6, c6, rfl⟩ := r6.sl; obtain ⟨y0, y1⟩ := BX.out W6 t6; have hb6 := Nat.lt_of_lt_of_le hbl t6.size; have R6 := Lib.hid (And.intro r6 (And.intro t6 k6)); have HRO3 := Lib.hid (rrow_ready (rrow_push (e := ⟨k, d⟩) HM.out r6) (by rw [List.length_append, HM.out]; rfl) ((Turn.refl NoBlock W6).alloc (.cells #[.int .i64 ad, .int .i64 ak] 74))); have HSR3 := Lib.hid (Rd.src (rd_new W6 74 2 #[.int .i64 ad, .int .i64 ak] rfl) 57 74 resT (ecells_one [⟨ad, ak⟩])); clear r6 t6 k6)
                | (at_builtin; refine wpList_append_w rfl (.tmp 86) (.tmp 88) 57 57 rfl HRO3.out i5 _ 16 resT HHI.out.1 HHI.out.2.1 HHI.out.2.2.1 HHI.out.2.2.2 rfl rfl rfl HSR3.out HB2.out.1 HB2.out.2 ?_; intro v7 W7 r7 t7 k7; have R7 := Lib.hid (And.intro r7 (And.intro t7 k7)); clear r7 t7 k7))
              go_roundg (n1 - (j + 1))
              case measure => omega
              case rel =>
                refine ⟨j + 1, v7, true, o1 ++ [⟨k, d⟩] ++ [⟨ak, ad⟩], rfl, by omega, rfl, rfl, by go_num, Lib.hid ⟨?_, rrow_push (e := ⟨ak, ad⟩) (by rw [List.length_append, HM.out]; rfl) R7.out.1, fun q hq => ?_, by rw [HTK.out]; exact HU.out.2.2.2.put HC.out⟩⟩
                · exact (((((HU.out.1.alloc _).alloc _).trans R6.out.2.1 (fun q hq => .inr (HU.out.2.2.1 q hq))).alloc _)).trans R7.out.2.1 (fun q hq => .inr (HK6.out _ _ R6.out.2.2 q hq))
                · rcases R7.out.2.2 q hq with h1 | h1
                  · exact HK6.out _ _ R6.out.2.2 q h1
                  · rw [h1.1, World.size_alloc]; have h2 := R6.out.2.1.size; rw [World.size_alloc, World.size_alloc] at h2; have := HU.out.1.size; omega
            · have g1 : decide (d < ad) = false := by simp; omega
              have g2 : (d == ad) = true := by simpa using hp
              have g3 : decide (k < ak) = true := by simpa using hp2
              clear hcl hbx hp
              go_wp2_with (first
                | (at_builtin; refine wpList_append_w rfl (.tmp 80) (.tmp 84) 57 57 rfl HRO2.out i5 _ 16 resT HHI.out.1 HHI.out.2.1 HHI.out.2.2.1 HHI.out.2.2.2 rfl rfl rfl HSR2.out HB.out.1 HB.out.2 ?_; intro v6 W6 r6 t6 k6; obtain ⟨p6, c6, rfl⟩ := r6.sl; obtain ⟨y0, y1⟩ := BX.out W6 t6; have hb6 := Nat.lt_of_lt_of_le hbl t6.size; have R6 := Lib.hid (And.intro r6 (And.intro t6 k6)); have HRO3 := Lib.hid (rrow_ready (rrow_push (e := ⟨k, d⟩) HM.out r6) (by rw [List.length_append, HM.out]; rfl) ((Turn.refl NoBlock W6).alloc (.cells #[.int .i64 ad, .int .i64 ak] 74))); have HSR3 := Lib.hid (Rd.src (rd_new W6 74 2 #[.int .i64 ad, .int .i64 ak] rfl) 57 74 resT (ecells_one [⟨ad, ak⟩])); clear r6 t6 k6)
                | (at_builtin; refine wpList_append_w rfl (.tmp 86) (.tmp 88) 57 57 rfl HRO3.out i5 _ 16 resT HHI.out.1 HHI.out.2.1 HHI.out.2.2.1 HHI.out.2.2.2 rfl rfl rfl HSR3.out HB2.out.1 HB2.out.2 ?_; intro v7 W7 r7 t7 k7; have R7 := Lib.hid (And.intro r7 (And.intro t7 k7)); clear r7 t7 k7))
              go_roundg (n1 - (j + 1))
              case measure => omega
              case rel =>
                refine ⟨j + 1, v7, true, o1 ++ [⟨k, d⟩] ++ [⟨ak, ad⟩], rfl, by omega, rfl, rfl, by go_num, Lib.hid ⟨?_, rrow_push (e := ⟨ak, ad⟩) (by rw [List.length_append, HM.out]; rfl) R7.out.1, fun q hq => ?_, by rw [HTK.out]; exact HU.out.2.2.2.put HC.out⟩⟩
                · exact (((((HU.out.1.alloc _).alloc _).trans R6.out.2.1 (fun q hq => .inr (HU.out.2.2.1 q hq))).alloc _)).trans R7.out.2.1 (fun q hq => .inr (HK6.out _ _ R6.out.2.2 q hq))
                · rcases R7.out.2.2 q hq with h1 | h1
                  · exact HK6.out _ _ R6.out.2.2 q h1
                  · rw [h1.1, World.size_alloc]; have h2 := R6.out.2.1.size; rw [World.size_alloc, World.size_alloc] at h2; have := HU.out.1.size; omega
          · have HC := Lib.hid (fun e => hput (hcl.1 e))
            clear hcl
            have hge : ad ≤ d := by omega
            have g1 : decide (d < ad) = false := by simp; omega
            by_cases heq : d = ad
            · subst heq
              have g2 : decide (k < ak) = false := by simp; omega
              clear hput
              go_wp2_with (first
                | (at_builtin; refine wpList_append_w rfl (.tmp 86) (.tmp 88) 57 57 rfl HRO1.out i5 _ 16 resT HHI.out.1 HHI.out.2.1 HHI.out.2.2.1 HHI.out.2.2.2 rfl rfl rfl HSR1.out HB.out.1 HB.out.2 ?_; intro v7 W7 r7 t7 k7; have R7 := Lib.hid (And.intro r7 (And.intro t7 k7)); clear r7 t7 k7))
              go_roundg (n1 - (j + 1))
              case measure => omega
              case rel =>
                refine ⟨j + 1, v7, false, _, rfl, by omega, rfl, rfl, by go_num, Lib.hid ⟨?_, rrow_push HM.out R7.out.1, fun q hq => ?_, by rw [HTK.out]; exact HU.out.2.2.2.skip HC.out⟩⟩
                · exact ((HU.out.1.alloc _).alloc _).trans R7.out.2.1 (fun q hq => .inr (HU.out.2.2.1 q hq))
                · rcases R7.out.2.2 q hq with h1 | h1
                  · exact HU.out.2.2.1 q h1
                  · rw [h1.1, World.size_alloc, World.size_alloc]; have := HU.out.1.size; omega
            · have g2 : (d == ad) = false := by simpa using heq
              clear hput
              go_wp2_with (first
                | (at_builtin; refine wpList_append_w rfl (.tmp 86) (.tmp 88) 57 57 rfl HRO1.out i5 _ 16 resT HHI.out.1 HHI.out.2.1 HHI.out.2.2.1 HHI.out.2.2.2 rfl rfl rfl HSR1.out HB.out.1 HB.out.2 ?_; intro v7 W7 r7 t7 k7; have R7 := Lib.hid (And.intro r7 (And.intro t7 k7)); clear r7 t7 k7))
              go_roundg (n1 - (j + 1))
              case measure => omega
              case rel =>
                refine ⟨j + 1, v7, false, _, rfl, by omega, rfl, rfl, by go_num, Lib.hid ⟨?_, rrow_push HM.out R7.out.1, fun q hq => ?_, by rw [HTK.out]; exact HU.out.2.2.2.skip HC.out⟩⟩
                · exact ((HU.out.1.alloc _).alloc _).trans R7.out.2.1 (fun q hq => .inr (HU.out.2.2.1 q hq))
                · rcases R7.out.2.2 q hq with h1 | h1
                  · exact HU.out.2.2.1 q h1
                  · rw [h1.1, World.size_alloc, World.size_alloc]; have := HU.out.1.size; omega
      · have e : n1 = j := by omega
        subst e
        have ht : L1.take n1 = L1 := List.take_of_length_le (by rw [HN1.out]; exact Nat.le_refl _)
        rw [ht] at HU
        have hil : (insE ⟨k, d⟩ L1).length ≤ 65537 := by rw [(insE_perm _ _).length_eq, List.length_cons, HN1.out]; omega
        have HIL := Lib.hid hil
        clear ht hil
        cases b with
        | true =>
          have hf := (TBlk.kept M2.out.1.typ HU.out.1 (fun h => h)).free 0
          have HFIN := Lib.hid (M2.out.1.lay HU.out.1 HU.out.2.1 (by rw [HU.out.2.2.2.done]; exact HIL.out))
          go_wp2
          go_ret2
          refine ⟨rfl, _, by rw [← HU.out.2.2.2.done]; exact HFIN.out.1, fun q hq => .inr ?_, ((Turn.refl (fun q => q = x) w).drewN _).trans (M2.out.2.2.trans HFIN.out.2 (fun _ h => .inl h)) (fun _ h => .inl h)⟩
          have h5 := HU.out.2.2.1 q hq
          have h6 := M2.out.2.2.size
          exact Nat.le_trans h6 h5
        | false =>
          have HRO := Lib.hid (rrow_ready HU.out.2.1 HM.out ((Turn.refl NoBlock wr).alloc (.cells #[.int .i64 d, .int .i64 k] 74)))
          have HSR := Lib.hid (Rd.src (rd_new wr 74 2 #[.int .i64 d, .int .i64 k] rfl) 57 74 resT (ecells_one [⟨d, k⟩]))
          go_wp2_with (first
            | (at_builtin; refine wpList_append_w rfl (.tmp 92) (.tmp 96) 57 57 rfl HRO.out i5 _ 16 resT HHI.out.1 HHI.out.2.1 HHI.out.2.2.1 HHI.out.2.2.2 rfl rfl rfl HSR.out HB.out.1 HB.out.2 ?_; intro v7 W7 r7 t7 k7; obtain ⟨p7, c7, rfl⟩ := r7.sl; have T7 := Lib.hid ((HU.out.1.alloc _).trans t7 (fun q hq => .inr (HU.out.2.2.1 q hq))); have z0 := T7.out.cell e0 (fun h => h); have z1 := (TBlk.kept M2.out.1.typ T7.out (fun h => h)).free 0; have HFIN := Lib.hid (M2.out.1.lay T7.out (rrow_push (e := ⟨k, d⟩) HM.out r7) (by rw [HU.out.2.2.2.end']; exact HIL.out)); have K7 := Lib.hid k7; clear r7 t7 k7))
          go_ret2
          refine ⟨rfl, _, by rw [← HU.out.2.2.2.end']; exact HFIN.out.1, fun q hq => .inr ?_, ((Turn.refl (fun q => q = x) w).drewN _).trans (M2.out.2.2.trans HFIN.out.2 (fun _ h => .inl h)) (fun _ h => .inl h)⟩
          have h6 := M2.out.2.2.size
          have h8 : w.heap.size ≤ w2.heap.size := h6
          rcases K7.out q hq with h1 | h1
          · exact Nat.le_trans h8 (HU.out.2.2.1 q h1)
          · rw [h1.1, World.size_alloc]; have := HU.out.1.size; omega
  | false =>
    rw [hh] at hf2
    have hq : decide (most ≤ (L.length : Int)) = false := by have h5 : ¬ most ≤ (L.length : Int) := fun e => h3 ⟨hh, e⟩; simpa using h5
    have L1d := HD.out
    obtain ⟨L1, hL1⟩ : ∃ L1, dropK L k = L1 := ⟨_, rfl⟩
    rw [L1d] at CD
    rw [hL1] at CD HD ⊢
    have HR1 := Lib.hid (show Right L1 from by rw [← hL1]; exact HW.out.2.2.drop k)
    have hl1 : L1.length ≤ 65536 := by rw [← hL1]; exact Nat.le_trans (List.length_filter_le _ _) (by omega)
    clear L1d hL1
    go_enter Try.func24, Try.ntmps24
    go_wp2_with (first
      | (go_at_call 26; (with_reducible refine (CF.out _ (Turn.refl _ _)).mono ?_); rintro e w1 ⟨rfl, rfl⟩))
    go_quiet (fail)
    go_wp2_with (first
      | (go_at_call 27; (with_reducible refine (CD.out _ ((Turn.refl _ _).drewN _)).mono ?_); rintro e w2 ⟨rfl, v2, m2, b2, t2⟩; have M2 := Lib.hid (And.intro m2 (And.intro b2 t2)); clear m2 b2 t2))
    have e0 := M2.out.1.c0
    have e2 := M2.out.1.c2
    obtain ⟨p2, c2', hv2⟩ := WRow.sl M2.out.1.row
    subst hv2
    obtain ⟨n1, hn1⟩ : ∃ n1, L1.length = n1 := ⟨_, rfl⟩
    rw [hn1] at e0 hl1 M2
    have HN1 := Lib.hid hn1
    have hxl := M2.out.1.typ.lt
    clear hn1
    go_loopg [9, 10, 11] n1 (fun z s9 s10 s11 wr => ∃ (j : Nat) (u : Value) (b : Bool) (o1 : List En), z = n1 - j ∧ j ≤ n1 ∧ s9 = u ∧ s10 = .bool b ∧ s11 = .int .i64 (j : Int) ∧ Hid (Turn NoBlock w2 wr ∧ RRow u o1 wr ∧ (∀ q, Blk u q → w2.heap.size ≤ q) ∧ Out b ⟨k, d⟩ (L1.take j) o1))
    case atStart => exact ⟨0, _, false, [], rfl, Nat.zero_le _, rfl, rfl, rfl, Lib.hid ⟨Turn.refl _ _, wrow_nil _ _ _, fun q hq => (blk_nil q hq).elim, Out.start _⟩⟩
    case round =>
      obtain ⟨j, u, b, o1, hz, hj, rfl, rfl, rfl, HU⟩ := hrel
      have d0 := HU.out.1.cell e0 (fun h => h)
      obtain ⟨pu, cu, hu⟩ := WRow.sl HU.out.2.1
      subst hu
      obtain ⟨m, hm⟩ : ∃ m, o1.length = m := ⟨_, rfl⟩
      have hml : m ≤ 65538 := by
        have h5 := HU.out.2.2.2
        have h6 := List.length_take_le j L1
        have : o1.length ≤ j + 1 := by
          cases b with
          | false => rw [(h5.no rfl).1]; omega
          | true => rw [(h5.yes rfl).1, (insE_perm _ _).length_eq, List.length_cons]; omega
        omega
      rw [hm] at HU ⊢
      have HM := Lib.hid hm
      have HB := Lib.hid (And.intro (show m + 1 ≤ maxLen by unfold maxLen; omega) (show (m + 1) * 16 ≤ 140737488355328 by omega))
      have HB2 := Lib.hid (And.intro (show m + 1 + 1 ≤ maxLen by unfold maxLen; omega) (show (m + 1 + 1) * 16 ≤ 140737488355328 by omega))
      obtain ⟨hi5, hz5, hs5, hb5⟩ := HE.out
      have HHI := Lib.hid (And.intro hi5 (And.intro hz5 (And.intro hs5 hb5)))
      clear hm hi5 hz5 hs5 hb5
      by_cases hlt : j < n1
      · obtain ⟨a, he⟩ : ∃ a, L1[j]? = some a := ⟨_, List.getElem?_eq_getElem (by rw [HN1.out]; exact hlt)⟩
        have hfa := HR1.out.fits a (List.mem_of_getElem? he)
        obtain ⟨ak, ad⟩ := a
        have HTK := Lib.hid (show L1.take (j + 1) = L1.take j ++ [⟨ak, ad⟩] from by rw [List.take_add_one, he]; rfl)
        obtain ⟨g, o, rfl, q0, q1⟩ := (M2.out.1.row.past HU.out.1).two he
        simp only at q0 q1
        have hjn : (j : Int) < (n1 : Int) := by omega
        have hcl := cd_lt (a := ⟨k, d⟩) (b := ⟨ak, ad⟩) ⟨HW.out.1, HW.out.2.1⟩ hfa
        have HRO1 := Lib.hid (rrow_ready HU.out.2.1 HM.out (((Turn.refl NoBlock wr).alloc (.cells #[.int .i64 ad, .int .i64 ak] 74)).alloc (.cells #[.int .i64 ad, .int .i64 ak] 74)))
        have HRO2 := Lib.hid (rrow_ready HU.out.2.1 HM.out (((Turn.refl NoBlock wr).alloc (.cells #[.int .i64 ad, .int .i64 ak] 74)).alloc (.cells #[.int .i64 d, .int .i64 k] 74)))
        have HSR1 := Lib.hid (Rd.src (rd_new (wr.alloc (.cells #[.int .i64 ad, .int .i64 ak] 74)) 74 2 #[.int .i64 ad, .int .i64 ak] rfl) 57 74 resT (ecells_one [⟨ad, ak⟩]))
        have HSR2 := Lib.hid (Rd.src (rd_new (wr.alloc (.cells #[.int .i64 ad, .int .i64 ak] 74)) 74 2 #[.int .i64 d, .int .i64 k] rfl) 57 74 resT (ecells_one [⟨d, k⟩]))
        rw [World.size_alloc] at HSR1 HSR2
        have hbx : ∀ q, Blk (.slice pu m cu) q → q < wr.heap.size := fun q hq => WRow.lt HU.out.2.1 hq
        clear he hfa
        cases b with
        | true =>
          clear hcl
          go_wp2_with (first
            | (at_builtin; refine wpList_append_w rfl (.tmp 86) (.tmp 88) 57 57 rfl HRO1.out i5 _ 16 resT HHI.out.1 HHI.out.2.1 HHI.out.2.2.1 HHI.out.2.2.2 rfl rfl rfl HSR1.out HB.out.1 HB.out.2 ?_; intro v7 W7 r7 t7 k7; have R7 := Lib.hid (And.intro r7 (And.intro t7 k7)); clear r7 t7 k7))
          go_roundg (n1 - (j + 1))
          case measure => omega
          case rel =>
            refine ⟨j + 1, v7, true, _, rfl, by omega, rfl, rfl, by go_num, Lib.hid ⟨?_, rrow_push HM.out R7.out.1, fun q hq => ?_, by rw [HTK.out]; exact HU.out.2.2.2.on⟩⟩
            · exact ((HU.out.1.alloc _).alloc _).trans R7.out.2.1 (fun q hq => .inr (HU.out.2.2.1 q hq))
            · rcases R7.out.2.2 q hq with h1 | h1
              · exact HU.out.2.2.1 q h1
              · rw [h1.1, World.size_alloc, World.size_alloc]; have := HU.out.1.size; omega
        | false =>
          unfold befE at hcl
          simp only at hcl
          by_cases hput : d < ad ∨ d = ad ∧ k < ak
          · have HC := Lib.hid (hcl.2 hput)
            have BX := Lib.hid (fun (W6 : World) (t6 : Turn (Blk (.slice pu m cu)) ((wr.alloc (.cells #[.int .i64 ad, .int .i64 ak] 74)).alloc (.cells #[.int .i64 d, .int .i64 k] 74)) W6) => show W6.cell? ⟨wr.heap.size, 0, none⟩ = some (.int .i64 ad) ∧ W6.cell? ⟨wr.heap.size, 1, none⟩ = some (.int .i64 ak) from by
              have ta := (Turn.refl NoBlock (wr.alloc (.cells #[.int .i64 ad, .int .i64 ak] 74))).alloc (.cells #[.int .i64 d, .int .i64 k] 74)
              have hno : ¬ Blk (.slice pu m cu) wr.heap.size := fun hq => by have := hbx _ hq; omega
              exact ⟨t6.cell (ta.cell (World.cell?_alloc_new wr _ _ 0) (fun h => h)) hno, t6.cell (ta.cell (World.cell?_alloc_new wr _ _ 1) (fun h => h)) hno⟩)
            have HK6 := Lib.hid (fun (W6 : World) (v6 : Value) (k6 : ∀ q, Blk v6 q → Blk (.slice pu m cu) q ∨ (q = ((wr.alloc (.cells #[.int .i64 ad, .int .i64 ak] 74)).alloc (.cells #[.int .i64 d, .int .i64 k] 74)).heap.size ∧ q < W6.heap.size)) (q : Nat) (hq : Blk v6 q) => show w2.heap.size ≤ q from by
              rcases k6 q hq with h1 | h1
              · exact HU.out.2.2.1 q h1
              · rw [h1.1, World.size_alloc, World.size_alloc]; have := HU.out.1.size; omega)
            have hbl : wr.heap.size < ((wr.alloc (.cells #[.int .i64 ad, .int .i64 ak] 74)).alloc (.cells #[.int .i64 d, .int .i64 k] 74)).heap.size := by rw [World.size_alloc, World.size_alloc]; omega
            rcases hput with hp | ⟨hp, hp2⟩
            · clear hcl hbx
              have g1 : decide (d < ad) = true := by simpa using hp
              go_wp2_with (first
                | (at_builtin; refine wpList_append_w rfl (.tmp 80) (.tmp 84) 57 57 rfl HRO2.out i5 _ 16 resT HHI.out.1 HHI.out.2.1 HHI.out.2.2.1 HHI.out.2.2.2 rfl rfl rfl HSR2.out HB.out.1 HB.out.2 ?_; intro v6 W6 r6 t6 k6; obtain ⟨p6, c6, rfl⟩ := r6.sl; obtain ⟨y0, y1⟩ := BX.out W6 t6; have hb6 := Nat.lt_of_lt_of_le hbl t6.size; have R6 := Lib.hid (And.intro r6 (And.intro t6 k6)); have HRO3 := Lib.hid (rrow_ready (rrow_push (e := ⟨k, d⟩) HM.out r6) (by rw [List.length_append, HM.out]; rfl) ((Turn.refl NoBlock W6).alloc (.cells #[.int .i64 ad, .int .i64 ak] 74))); have HSR3 := Lib.hid (Rd.src (rd_new W6 74 2 #[.int .i64 ad, .int .i64 ak] rfl) 57 74 resT (ecells_one [⟨ad, ak⟩])); clear r6 t6 k6)
                | (at_builtin; refine wpList_append_w rfl (.tmp 86) (.tmp 88) 57 57 rfl HRO3.out i5 _ 16 resT HHI.out.1 HHI.out.2.1 HHI.out.2.2.1 HHI.out.2.2.2 rfl rfl rfl HSR3.out HB2.out.1 HB2.out.2 ?_; intro v7 W7 r7 t7 k7; have R7 := Lib.hid (And.intro r7 (And.intro t7 k7)); clear r7 t7 k7))
              go_roundg (n1 - (j + 1))
              case measure => omega
              case rel =>
                refine ⟨j + 1, v7, true, o1 ++ [⟨k, d⟩] ++ [⟨ak, ad⟩], rfl, by omega, rfl, rfl, by go_num, Lib.hid ⟨?_, rrow_push (e := ⟨ak, ad⟩) (by rw [List.length_append, HM.out]; rfl) R7.out.1, fun q hq => ?_, by rw [HTK.out]; exact HU.out.2.2.2.put HC.out⟩⟩
                · exact (((((HU.out.1.alloc _).alloc _).trans R6.out.2.1 (fun q hq => .inr (HU.out.2.2.1 q hq))).alloc _)).trans R7.out.2.1 (fun q hq => .inr (HK6.out _ _ R6.out.2.2 q hq))
                · rcases R7.out.2.2 q hq with h1 | h1
                  · exact HK6.out _ _ R6.out.2.2 q h1
                  · rw [h1.1, World.size_alloc]; have h2 := R6.out.2.1.size; rw [World.size_alloc, World.size_alloc] at h2; have := HU.out.1.size; omega
            · have g1 : decide (d < ad) = false := by simp; omega
              have g2 : (d == ad) = true := by simpa using hp
              have g3 : decide (k < ak) = true := by simpa using hp2
              clear hcl hbx hp
              go_wp2_with (first
                | (at_builtin; refine wpList_append_w rfl (.tmp 80) (.tmp 84) 57 57 rfl HRO2.out i5 _ 16 resT HHI.out.1 HHI.out.2.1 HHI.out.2.2.1 HHI.out.2.2.2 rfl rfl rfl HSR2.out HB.out.1 HB.out.2 ?_; intro v6 W6 r6 t6 k6; obtain ⟨p6, c6, rfl⟩ := r6.sl; obtain ⟨y0, y1⟩ := BX.out W6 t6; have hb6 := Nat.lt_of_lt_of_le hbl t6.size; have R6 := Lib.hid (And.intro r6 (And.intro t6 k6)); have HRO3 := Lib.hid (rrow_ready (rrow_push (e := ⟨k, d⟩) HM.out r6) (by rw [List.length_append, HM.out]; rfl) ((Turn.refl NoBlock W6).alloc (.cells #[.int .i64 ad, .int .i64 ak] 74))); have HSR3 := Lib.hid (Rd.src (rd_new W6 74 2 #[.int .i64 ad, .int .i64 ak] rfl) 57 74 resT (ecells_one [⟨ad, ak⟩])); clear r6 t6 k6)
                | (at_builtin; refine wpList_append_w rfl (.tmp 86) (.tmp 88) 57 57 rfl HRO3.out i5 _ 16 resT HHI.out.1 HHI.out.2.1 HHI.out.2.2.1 HHI.out.2.2.2 rfl rfl rfl HSR3.out HB2.out.1 HB2.out.2 ?_; intro v7 W7 r7 t7 k7; have R7 := Lib.hid (And.intro r7 (And.intro t7 k7)); clear r7 t7 k7))
              go_roundg (n1 - (j + 1))
              case measure => omega
              case rel =>
                refine ⟨j + 1, v7, true, o1 ++ [⟨k, d⟩] ++ [⟨ak, ad⟩], rfl, by omega, rfl, rfl, by go_num, Lib.hid ⟨?_, rrow_push (e := ⟨ak, ad⟩) (by rw [List.length_append, HM.out]; rfl) R7.out.1, fun q hq => ?_, by rw [HTK.out]; exact HU.out.2.2.2.put HC.out⟩⟩
                · exact (((((HU.out.1.alloc _).alloc _).trans R6.out.2.1 (fun q hq => .inr (HU.out.2.2.1 q hq))).alloc _)).trans R7.out.2.1 (fun q hq => .inr (HK6.out _ _ R6.out.2.2 q hq))
                · rcases R7.out.2.2 q hq with h1 | h1
                  · exact HK6.out _ _ R6.out.2.2 q h1
                  · rw [h1.1, World.size_alloc]; have h2 := R6.out.2.1.size; rw [World.size_alloc, World.size_alloc] at h2; have := HU.out.1.size; omega
          · have HC := Lib.hid (fun e => hput (hcl.1 e))
            clear hcl
            have hge : ad ≤ d := by omega
            have g1 : decide (d < ad) = false := by simp; omega
            by_cases heq : d = ad
            · subst heq
              have g2 : decide (k < ak) = false := by simp; omega
              clear hput
              go_wp2_with (first
                | (at_builtin; refine wpList_append_w rfl (.tmp 86) (.tmp 88) 57 57 rfl HRO1.out i5 _ 16 resT HHI.out.1 HHI.out.2.1 HHI.out.2.2.1 HHI.out.2.2.2 rfl rfl rfl HSR1.out HB.out.1 HB.out.2 ?_; intro v7 W7 r7 t7 k7; have R7 := Lib.hid (And.intro r7 (And.intro t7 k7)); clear r7 t7 k7))
              go_roundg (n1 - (j + 1))
              case measure => omega
              case rel =>
                refine ⟨j + 1, v7, false, _, rfl, by omega, rfl, rfl, by go_num, Lib.hid ⟨?_, rrow_push HM.out R7.out.1, fun q hq => ?_, by rw [HTK.out]; exact HU.out.2.2.2.skip HC.out⟩⟩
                · exact ((HU.out.1.alloc _).alloc _).trans R7.out.2.1 (fun q hq => .inr (HU.out.2.2.1 q hq))
                · rcases R7.out.2.2 q hq with h1 | h1
                  · exact HU.out.2.2.1 q h1
                  · rw [h1.1, World.size_alloc, World.size_alloc]; have := HU.out.1.size; omega
            · have g2 : (d == ad) = false := by simpa using heq
              clear hput
              go_wp2_with (first
                | (at_builtin; refine wpList_append_w rfl (.tmp 86) (.tmp 88) 57 57 rfl HRO1.out i5 _ 16 resT HHI.out.1 HHI.out.2.1 HHI.out.2.2.1 HHI.out.2.2.2 rfl rfl rfl HSR1.out HB.out.1 HB.out.2 ?_; intro v7 W7 r7 t7 k7; have R7 := Lib.hid (And.intro r7 (And.intro t7 k7)); clear r7 t7 k7))
              go_roundg (n1 - (j + 1))
              case measure => omega
              case rel =>
                refine ⟨j + 1, v7, false, _, rfl, by omega, rfl, rfl, by go_num, Lib.hid ⟨?_, rrow_push HM.out R7.out.1, fun q hq => ?_, by rw [HTK.out]; exact HU.out.2.2.2.skip HC.out⟩⟩
                · exact ((HU.out.1.alloc _).alloc _).trans R7.out.2.1 (fun q hq => .inr (HU.out.2.2.1 q hq))
                · rcases R7.out.2.2 q hq with h1 | h1
                  · exact HU.out.2.2.1 q h1
                  · rw [h1.1, World.size_alloc, World.size_alloc]; have := HU.out.1.size; omega
      · have e : n1 = j := by omega
        subst e
        have ht : L1.take n1 = L1 := List.take_of_length_le (by rw [HN1.out]; exact Nat.le_refl _)
        rw [ht] at HU
        have hil : (insE ⟨k, d⟩ L1).length ≤ 65537 := by rw [(insE_perm _ _).length_eq, List.length_cons, HN1.out]; omega
        have HIL := Lib.hid hil
        clear ht hil
        cases b with
        | true =>
          have hf := (TBlk.kept M2.out.1.typ HU.out.1 (fun h => h)).free 0
          have HFIN := Lib.hid (M2.out.1.lay HU.out.1 HU.out.2.1 (by rw [HU.out.2.2.2.done]; exact HIL.out))
          go_wp2
          go_ret2
          refine ⟨rfl, _, by rw [← HU.out.2.2.2.done]; exact HFIN.out.1, fun q hq => .inr ?_, ((Turn.refl (fun q => q = x) w).drewN _).trans (M2.out.2.2.trans HFIN.out.2 (fun _ h => .inl h)) (fun _ h => .inl h)⟩
          have h5 := HU.out.2.2.1 q hq
          have h6 := M2.out.2.2.size
          exact Nat.le_trans h6 h5
        | false =>
          have HRO := Lib.hid (rrow_ready HU.out.2.1 HM.out ((Turn.refl NoBlock wr).alloc (.cells #[.int .i64 d, .int .i64 k] 74)))
          have HSR := Lib.hid (Rd.src (rd_new wr 74 2 #[.int .i64 d, .int .i64 k] rfl) 57 74 resT (ecells_one [⟨d, k⟩]))
          go_wp2_with (first
            | (at_builtin; refine wpList_append_w rfl (.tmp 92) (.tmp 96) 57 57 rfl HRO.out i5 _ 16 resT HHI.out.1 HHI.out.2.1 HHI.out.2.2.1 HHI.out.2.2.2 rfl rfl rfl HSR.out HB.out.1 HB.out.2 ?_; intro v7 W7 r7 t7 k7; obtain ⟨p7, c7, rfl⟩ := r7.sl; have T7 := Lib.hid ((HU.out.1.alloc _).trans t7 (fun q hq => .inr (HU.out.2.2.1 q hq))); have z0 := T7.out.cell e0 (fun h => h); have z1 := (TBlk.kept M2.out.1.typ T7.out (fun h => h)).free 0; have HFIN := Lib.hid (M2.out.1.lay T7.out (rrow_push (e := ⟨k, d⟩) HM.out r7) (by rw [HU.out.2.2.2.end']; exact HIL.out)); have K7 := Lib.hid k7; clear r7 t7 k7))
          go_ret2
          refine ⟨rfl, _, by rw [← HU.out.2.2.2.end']; exact HFIN.out.1, fun q hq => .inr ?_, ((Turn.refl (fun q => q = x) w).drewN _).trans (M2.out.2.2.trans HFIN.out.2 (fun _ h => .inl h)) (fun _ h => .inl h)⟩
          have h6 := M2.out.2.2.size
          have h8 : w.heap.size ≤ w2.heap.size := h6
          rcases K7.out q hq with h1 | h1
          · exact Nat.le_trans h8 (HU.out.2.2.1 q h1)
          · rw [h1.1, World.size_alloc]; have := HU.out.1.size; omega
end
end Go.Proofs.Ytcbphfpfdfgehaa
