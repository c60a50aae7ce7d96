/-
  What handles of an end tells: the handles of all its messages, in order, in memory of its own. No conditions but that the end is in memory.
-/
import Derived.Test.YtcbphfpfdfgehaaCQueue
namespace Go.Proofs.Ytcbphfpfdfgehaa
open Go.RowKit Go.Shelf

attribute [local go_sem] Oper.semAt_some

def hsOf (l : List QM) : List Int := l.flatMap (·.m.h)
theorem hsOf_snoc (l : List QM) (q : QM) : hsOf (l ++ [q]) = hsOf l ++ q.m.h := by simp [hsOf]
theorem turn_of_grown {X Y : World} {row : Option Nat} (hg : X.grownBy Y row) : Turn (fun k => row = some k) X Y := ⟨hg.os, hg.tape, hg.output, hg.size, fun k hk hn => hg.block k hk (fun e => hn e.symm)⟩
theorem WRow.nocell {X Y : World} {row : Option Nat} {e size n : Nat} {v : Value} {xs : List Value} (h : WRow X e size v n xs) (hg : X.grownBy Y row) (hr : ∀ r, row = some r → ∃ o : Obj, X.heap[r]? = some o ∧ o.isCells = false) : WRow Y e size v n xs :=
  h.kept (turn_of_grown hg) (fun k hk hrow => by
    obtain ⟨cur, hc⟩ := h.typed hk
    obtain ⟨o, ho, hi⟩ := hr k hrow
    rw [hc] at ho; cases ho; cases hi)
theorem boxed_nocell {X Y : World} {row : Option Nat} {B t : Nat} {v : Value} (h : Boxed X B t v) (hg : X.grownBy Y row) (hr : ∀ r, row = some r → ∃ o : Obj, X.heap[r]? = some o ∧ o.isCells = false) : Boxed Y B t v :=
  h.kept hg (fun e => by
    obtain ⟨o, ho, hi⟩ := hr B e.symm
    rw [show X.heap[B]? = _ from h] at ho; cases ho; cases hi)
theorem heap_nocell {X Y : World} {row : Option Nat} {B : Nat} {cs : Array Value} {t : TypeId} {fr : Nat × Nat} (h : X.heap[B]? = some (.cells cs t fr)) (hg : X.grownBy Y row) (hr : ∀ r, row = some r → ∃ o : Obj, X.heap[r]? = some o ∧ o.isCells = false) : Y.heap[B]? = some (.cells cs t fr) :=
  (hg.block B (lt_of_block h) (fun e => by
    obtain ⟨o, ho, hi⟩ := hr B e.symm
    rw [h] at ho; cases ho; cases hi)).trans h
theorem QSees.kept {Bs c o : Nat} {s : Sd} {v : SV} {W W' : World} {F : Nat → Prop} (h : QSees Bs c o s v W) (t : Turn F W W') (hF : ∀ k, k = Bs ∨ k = c ∨ SFt s v k → ¬ F k) : QSees Bs c o s v W' :=
  ⟨Boxed.kept' h.box t (hF Bs (.inl rfl)), h.at'.kept t (fun k hk => hF k (.inr hk))⟩
theorem QSees.lt {Bs c o : Nat} {s : Sd} {v : SV} {W : World} (h : QSees Bs c o s v W) {k : Nat} (hk : k = Bs ∨ k = c ∨ SFt s v k) : k < W.heap.size := by
  rcases hk with rfl | hk
  · exact h.box.lt
  · exact h.at'.lt hk
theorem QSees.grown {Bs c o : Nat} {s : Sd} {v : SV} {W X Y : World} {row : Option Nat} (h : QSees Bs c o s v X) (h0 : QSees Bs c o s v W) (hg : X.grownBy Y row) (hr : ∀ r, row = some r → W.heap.size ≤ r) : QSees Bs c o s v Y :=
  h.kept (turn_of_grown hg) (fun k hk e => by have := hr k e; have := h0.lt hk; omega)

set_option maxRecDepth 100000 in
set_option maxHeartbeats 4000000 in
theorem shandles_any {w : World} {c o : Nat} {s : Sd} {v : SV} (h : SAt w c o s v) (h1 : s.an.length ≤ 1000000) (h2 : s.ot.length ≤ 1000000) :
    Calls Try.prog 55 #[.pointer (some ⟨c, o, none⟩)] w fun e w' => ∃ u, e = .returned u ∧ Nums u (hsOf s.q) w' ∧ (∀ k, Blk u k → w.heap.size ≤ k) ∧ Turn NoBlock w w' := by
  obtain ⟨i3, hi3, hz3, hs3, hb3⟩ := info_parts infoI
  have H := Lib.hid h
  have H1 := Lib.hid (And.intro h1 h2)
  clear h h1 h2
  refine (callsIn_wide (n := 6)).1 ?_
  refine callsIn_of_wp_marks (F := Fence.wide) Try.func55 rfl trivial ?_ rfl
  simp only [Try.ntmps55, List.size_toArray, List.length_cons, List.length_nil, Nat.reduceAdd, Nat.reduceSub, Array.replicate_succ, Array.replicate_zero, List.push_toArray, List.append_toArray, List.nil_append, List.cons_append]
  gi_wp2_with (refine ⟨trivial, ?_⟩; gi_at_call 49; refine (callsIn_wide.2 (queue_any _ _)).mono ?_; rintro e w' ⟨rfl, rfl⟩)
  obtain ⟨E, hE⟩ : ∃ E, w.heap.size = E := ⟨_, rfl⟩
  have hst : ((w.alloc (.cells #[.slice none 0 0] 36)).alloc (.cells #[.pointer (some ⟨c, o, none⟩)] 111)).heap.size = E + 2 := by simp [hE]
  have bx0 := (Boxed.new w 36 (.slice none 0 0)).alloc (.cells #[.pointer (some ⟨c, o, none⟩)] 111)
  have bx1 := Boxed.new (w.alloc (.cells #[.slice none 0 0] 36)) 111 (.pointer (some ⟨c, o, none⟩))
  rw [World.size_alloc, hE] at bx1
  rw [hE] at bx0
  have hT : Turn NoBlock w ((w.alloc (.cells #[.slice none 0 0] 36)).alloc (.cells #[.pointer (some ⟨c, o, none⟩)] 111)) := ((Turn.refl _ w).alloc _).alloc _
  have hS0 : SAt ((w.alloc (.cells #[.slice none 0 0] 36)).alloc (.cells #[.pointer (some ⟨c, o, none⟩)] 111)) c o s v := H.out.past hT
  generalize (w.alloc (.cells #[.slice none 0 0] 36)).alloc (.cells #[.pointer (some ⟨c, o, none⟩)] 111) = W0 at *
  rw [hE]
  have hQ0 : QSees (E + 1) c o s v W0 := ⟨bx1, hS0⟩
  refine range2 (gf := 72) (lb := #[.pointer (some ⟨E + 1, 0, none⟩)]) rfl (enters_of Try.func72 (by kernel_rfl) rfl)
    (queue_gives (E + 1) c o s v (by have := H1.out.1; omega) (by have := H1.out.2; omega)) (fun _ => rfl)
    (fun pre X => (∃ u, Boxed X E 36 u ∧ Nums u (hsOf pre) X ∧ ∀ k, Blk u k → E ≤ k) ∧ QSees (E + 1) c o s v X ∧ Turn NoBlock w X ∧ (hsOf pre).length ≤ 64 * pre.length)
    (fun _ _ _ => False) ?hI (fun _ _ _ _ _ hs _ _ => hs) (fun _ _ h => h.2.1) ⟨⟨_, bx0, wrow_nil _ _ _, fun k hk => (blk_nil k hk).elim⟩, hQ0, hT, Nat.zero_le _⟩
    (fun x a' X => ∃ Bx, X.heap[Bx]? = some (.cells #[.int .i64 x.m.tx, x.vd, x.vh] 49 (0, 0)) ∧ a' = { tmps := #[.pointer (some ⟨c, o, none⟩), undef, .slice none 0 0, .pointer (some ⟨E, 0, none⟩), .pointer (some ⟨Bx, 0, none⟩), .pointer (some ⟨c, o, none⟩), .func (.func 72) #[] #[.pointer (some ⟨E + 1, 0, none⟩)], x.agg, undef, undef, undef, undef, undef], defers := [] } ∧ Shown x) ?hAx ?assign ?body ?done ?stop
  case hI =>
    rintro pre X Y row ⟨⟨u, hb, hu, hk⟩, hq, ht, hl⟩ hg hr
    exact ⟨⟨u, boxed_nocell hb hg (fun r e => (hr r e).2), WRow.nocell hu hg (fun r e => (hr r e).2), hk⟩, hq.grown hQ0 hg (fun r e => (hr r e).1), ht.grown hg (fun r e => .inr (by have := (hr r e).1; omega)), hl⟩
  case hAx =>
    rintro x a' - X Y row ⟨Bx, hb, rfl, hsh⟩ hg hr
    exact ⟨Bx, heap_nocell hb hg (fun r e => (hr r e).2), rfl, hsh⟩
  case assign =>
    rintro l pre q X K ⟨⟨u, hb, hu, hk⟩, hq, ht, hl⟩ ⟨hmem, hlen⟩ hX hK
    have hsh := (hq.at'.ok q hmem).shown
    obtain ⟨⟨p1, c1, hvd⟩, p2, c2, hvh⟩ := hsh
    have HK := Lib.hid hK
    have HI := Lib.hid (And.intro hb (And.intro hu (And.intro hq ht)))
    have HKK := Lib.hid (And.intro hk hl)
    have HD := Lib.hid (And.intro hvd hvh)
    unfold QM.agg
    rw [hvd, hvh]
    clear hb hu hk hq ht hl hmem hlen hX hK hvd hvh hE hst hQ0 hS0 hT bx0 bx1
    gi_wp2
    have ta : Turn NoBlock X (X.alloc (.cells #[.int .i64 q.m.tx, .slice p1 q.m.d.length c1, .slice p2 q.m.h.length c2] 49)) := (Turn.refl _ X).alloc _
    refine HK.out _ _ (KeepsAll.of_turn ta (fun _ h => h.elim)) ⟨⟨u, HI.out.1.alloc _, HI.out.2.1.past ta, HKK.out.1⟩, HI.out.2.2.1.kept ta (fun _ _ h => h), TT HI.out.2.2.2 ta, HKK.out.2⟩ ⟨X.heap.size, ?_, ?_, ⟨p1, c1, HD.out.1⟩, p2, c2, HD.out.2⟩
    · rw [heap_alloc_new, HD.out.1, HD.out.2]
    · unfold QM.agg; rw [HD.out.1, HD.out.2]
  case body =>
    rintro l pre q a' X hX ⟨⟨u, hb, hu, hk⟩, hq, ht, hl⟩ ⟨Bx, hbx, rfl, hsh⟩ ⟨hmem, hlen⟩
    obtain ⟨⟨p1, c1, hvd⟩, p2, c2, hvh⟩ := hsh
    have hok := hq.at'.ok q hmem
    have hsrc := Rd.src (Nums.rd hok.h) 36 3 intsT (icells_one _)
    have hfit := hok.fits.2
    obtain ⟨pu, cu, rfl⟩ := hu.sl
    have hub := H1.out
    have f1 : (hsOf pre).length + q.m.h.length ≤ maxLen := by unfold maxLen; omega
    have f2 : ((hsOf pre).length + q.m.h.length) * 8 ≤ 140737488355328 := by omega
    have hty : TBlk X E 36 := ⟨_, hb⟩
    have e0 := hb.cell
    have e1 := hty.free 0
    have elt := hb.lt
    rw [hvd, hvh] at hbx
    rw [hvh] at hsrc
    unfold QM.agg
    rw [hvd, hvh]
    obtain ⟨x0, x1, x2⟩ := box3 hbx
    have F := Lib.hid (And.intro f1 f2)
    have HU := Lib.hid hu
    have HSRC := Lib.hid hsrc
    have HB := Lib.hid (And.intro hb hty)
    have HQ := Lib.hid hq
    have HT := Lib.hid ht
    have HE := Lib.hid hE
    have HST := Lib.hid hst
    have HKK := Lib.hid hk
    have HL := Lib.hid (And.intro hl hfit)
    have HQ0 := Lib.hid hQ0
    have HX := Lib.hid hX
    clear hb hu hk hq ht hl hbx hvd hvh hok hsrc hfit hub f1 f2 hty hE hst hQ0 hS0 hT bx0 bx1 hX hmem hlen
    gi_wp2_with (gi_at_builtin; refine wpListIn_append_w rfl (.tmp 8) (.tmp 10) 36 36 rfl HU.out i3 _ 8 intsT hi3 hz3 hs3 hb3 rfl rfl rfl HSRC.out F.out.1 F.out.2 ?_; intro v' W1 r1 t1 k1; obtain ⟨p', c', rfl⟩ := r1.sl; have hEu := blk_typed HU.out HB.out.2 (by decide); have g0 := t1.cell e0 hEu; have g1 := (HB.out.2.kept t1 hEu).free 0; have R1 := Lib.hid r1; have T1 := Lib.hid t1; have K1 := Lib.hid k1; clear r1 t1 k1)
    have hEu := blk_typed HU.out HB.out.2 (by decide)
    have hEr := blk_typed R1.out (HB.out.2.kept T1.out hEu) (by decide)
    have hEE := HE.out
    have hSS := HST.out
    have tall : Turn (fun k => k = E ∨ Blk (.slice pu (hsOf pre).length cu) k) X (W1.setCell ⟨E, 0, none⟩ (.slice p' ((hsOf pre).length + q.m.h.length) c')) :=
      (T1.out.mono (fun k hk => .inl (.inr hk))).setCell (p := ⟨E, 0, none⟩) (.inl (.inl rfl)) _
    refine ⟨KeepsAll.of_turn tall (fun k hk => ?_), ⟨.slice p' ((hsOf pre).length + q.m.h.length) c', ?_, ?_, fun k hk => ?_⟩, HQ.out.kept tall (fun k hk hh => ?_), HT.out.trans tall (fun k hk => .inr ?_), ?_⟩
    · rcases hk with rfl | hk
      · left; omega
      · exact .inr (.inr ⟨3, HU.out.typed hk, by decide, by decide⟩)
    · have h3 := T1.out.heap (show X.heap[E]? = some (.cells #[_] 36 (0, 0)) from HB.out.1) hEu
      have h4 := set_at h3 0 (.slice p' ((hsOf pre).length + q.m.h.length) c')
      exact h4
    · have h5 := R1.out.setC (j := 0) (u := .slice p' ((hsOf pre).length + q.m.h.length) c') (HB.out.2.kept T1.out hEu) (by decide)
      unfold Nums
      rw [hsOf_snoc, List.length_append]
      unfold icells at h5 ⊢
      rw [List.map_append]
      exact h5
    · rcases K1.out k hk with h6 | h6
      · exact HKK.out k h6
      · have := HX.out; omega
    · rcases hh with rfl | hh
      · have h7 := HQ0.out
        rcases hk with hk | hk | hk
        · omega
        · subst hk
          exact (HQ.out.at'.typ.unlike HB.out.2 (by decide)) rfl
        · have := H.out.lt (.inr hk); omega
      · have h8 := HKK.out k hh
        rcases hk with rfl | hk
        · exact (TBlk.unlike (show TBlk X (E + 1) 111 from ⟨_, HQ.out.box⟩) (HU.out.typed hh) (by decide)) rfl
        · have := H.out.lt hk; omega
    · rcases hk with rfl | hk
      · omega
      · have := HKK.out k hk; omega
    · rw [hsOf_snoc, List.length_append, List.length_append]
      have := HL.out
      simp only [List.length_cons, List.length_nil]
      omega
  case done =>
    rintro D xs X hD rfl ⟨⟨u, hb, hu, hk⟩, hq, ht, hl⟩ hK
    have e0 := hb.cell
    have e1 := hb.lt
    obtain ⟨pu, cu, rfl⟩ := hu.sl
    have HK := Lib.hid hK
    have HI := Lib.hid (And.intro hu (And.intro hk ht))
    have HD := Lib.hid (And.intro hD (And.intro hst hE))
    clear hu hk hq ht hl hK hD hE hst hQ0 hS0 hT bx0 bx1 hb
    gi_wp2
    have hDD := HD.out
    have tp := turn_putObj X D (.deferred none)
    refine ⟨by simp, .inl ⟨_, _, rfl, run_takeDeferred HK.out, ?_⟩⟩
    refine ⟨_, results_tmp rfl _ _ _, .slice pu (hsOf s.q).length cu, rfl, WRow.nocell HI.out.1 (grownBy_putObj' X D _) (fun r e => by cases e; exact ⟨_, HK.out, rfl⟩), fun k hk => by have := HI.out.2.1 k hk; omega, HI.out.2.2.trans tp (fun k hk => .inr (by omega))⟩
  case stop =>
    rintro D c' pre X - - h -
    exact h.elim
end Go.Proofs.Ytcbphfpfdfgehaa
