/-
  What Splice of the reference's lists makes of the queues. No conditions but that the lists are such as calls can make.
-/
import Derived.Test.YtpfoleaampcibaaRefCalls
import Derived.Lib.Hide
import Derived.Deep.DeepCutAuto
namespace Go.Proofs.Ytpfoleaampcibaa
open Go.ChangeShapes Go.WideShapes Go.ChangeAt Go.RowKit

set_option maxHeartbeats 16000000 in
theorem rsplice_ok (W : World) (x qb n k : Nat) (vs : Nat → Value) (L : Nat → List Nat) (q g : Nat) (h : RefMem W x qb n k vs L) (ap : Apart n k L) (hn : n ≤ 65536) (hq : q < k) (hg : g < k) (hne : q ≠ g) :
    Calls Try.prog 19 #[.pointer (some ⟨x, 0, none⟩), .int .i64 q, .int .i64 g] W fun e w' => e = .returned (.int .i64 0) ∧ ∃ R', RefAt w' x R' n k (upd (upd L q (L q ++ L g)) g []) ∧ Turn (RFoot x qb k vs) W w' ∧ ∀ j, R' j → RFoot x qb k vs j ∨ W.heap.size ≤ j := by
  have c0 := h.c0
  obtain ⟨pr, cr, -, c1, hI⟩ := ref_row h hq
  obtain ⟨ps, cs, -, c2, hJ⟩ := ref_row h hg
  have hlen : (L q).length ≤ 65536 := by
    have := nodup_len n (L q) (ap.nodup q hq) (fun y hy => ap.lt q y hq hy)
    omega
  have hlen2 : (L g).length ≤ 65536 := by
    have := nodup_len n (L g) (ap.nodup g hg) (fun y hy => ap.lt g y hg hy)
    omega
  obtain ⟨l, hl⟩ : ∃ l, L q = l := ⟨_, rfl⟩
  obtain ⟨l2, hl2⟩ : ∃ l, L g = l := ⟨_, rfl⟩
  obtain ⟨m, hm⟩ : ∃ m, l.length = m := ⟨_, rfl⟩
  obtain ⟨m2, hm2⟩ : ∃ m, l2.length = m := ⟨_, rfl⟩
  rw [hl] at hI c1 hlen ⊢
  rw [hl2] at hJ c2 hlen2 ⊢
  rw [hm] at hI c1 hlen
  rw [hm2] at hJ c2 hlen2
  have HR : Hid (RefMem W x qb n k vs L) := h
  have HS : Hid (∀ W', Turn NoBlock W W' → Src W' (.slice pr m cr) (castL l) ∧ Src W' (.slice ps m2 cs) (castL l2)) := fun W' hT => ⟨Src.of_ints (hI.past hT), Src.of_ints (hJ.past hT)⟩
  have HLn : Hid (([] : List Int).length + (castL l).length ≤ 1000000 ∧ (castL l).length + (castL l2).length ≤ 1000000) := by
    show 0 + (castL l).length ≤ 1000000 ∧ (castL l).length + (castL l2).length ≤ 1000000
    rw [castL_len, castL_len, hm, hm2]; omega
  have HF : Hid (∀ (w : World) (v : Value), Turn NoBlock W w → Ints v (castL l ++ castL l2) w → (∀ j, Blk v j → W.heap.size ≤ j) →
      (∃ R', RefAt ((w.setCell ⟨qb, q, none⟩ v).setCell ⟨qb, g, none⟩ (.slice none 0 0)) x R' n k (upd (upd L q (l ++ l2)) g []) ∧ Turn (RFoot x qb k vs) W ((w.setCell ⟨qb, q, none⟩ v).setCell ⟨qb, g, none⟩ (.slice none 0 0)) ∧ ∀ j, R' j → RFoot x qb k vs j ∨ W.heap.size ≤ j) ∧
      (w.setCell ⟨qb, q, none⟩ v).cell? ⟨x, 0, none⟩ = some (.slice (some ⟨qb, 0, none⟩) k k) ∧ (w.setCell ⟨qb, q, none⟩ v).cell? ⟨qb, g, none⟩ = some (.slice ps m2 cs) ∧ (w.setCell ⟨qb, q, none⟩ v).frozen? ⟨qb, g, none⟩ = false) := fun w v h1 h2 h3 => by
    have e : castL (l ++ l2) = castL l ++ castL l2 := castL_append _ _
    obtain ⟨s1, s2⟩ := (HR.out.past h1).set hq (l := l ++ l2) (by rw [e]; exact h2)
    obtain ⟨s3, s4⟩ := s1.set hg (v := .slice none 0 0) (l := []) (ints_nil _)
    have hT := (h1.mono (G := RFoot x qb k vs) (fun _ h => h.elim)).then s2
    refine ⟨⟨_, ⟨qb, _, s3, rfl⟩, hT.trans s4 (fun j hj => ?_), fun j hj => ?_⟩, s1.c0, ?_, s1.free g⟩
    · rcases hj with hj | hj | ⟨p, hp, hj⟩
      · exact .inl (.inl hj)
      · exact .inl (.inr (.inl hj))
      · by_cases e : p = q
        · subst e; rw [upd_same] at hj; exact .inr (h3 j hj)
        · rw [upd_other _ _ e] at hj; exact .inl (.inr (.inr ⟨p, hp, hj⟩))
    · rcases hj with hj | hj | ⟨p, hp, hj⟩
      · exact .inl (.inl hj)
      · exact .inl (.inr (.inl hj))
      · by_cases e : p = g
        · subst e; rw [upd_same] at hj; exact (blk_nil j hj).elim
        · rw [upd_other _ _ e] at hj
          by_cases e : p = q
          · subst e; rw [upd_same] at hj; exact .inr (h3 j hj)
          · rw [upd_other _ _ e] at hj; exact .inl (.inr (.inr ⟨p, hp, hj⟩))
    · rw [World.cell?_setCell_other _ _ _ _ (by intro e; injection e; omega)]
      exact h1.cell c2 (fun h => h)
  have HC : Hid (∀ w, Turn NoBlock W w → w.cell? ⟨x, 0, none⟩ = some (.slice (some ⟨qb, 0, none⟩) k k) ∧ w.cell? ⟨qb, q, none⟩ = some (.slice pr m cr) ∧ w.cell? ⟨qb, g, none⟩ = some (.slice ps m2 cs) ∧ w.frozen? ⟨qb, q, none⟩ = false) := fun w hT => ⟨hT.cell c0 (fun h => h), hT.cell c1 (fun h => h), hT.cell c2 (fun h => h), (HR.out.past hT).free q⟩
  have hqi : (q : Int) < k := by omega
  have hgi : (g : Int) < k := by omega
  have hb : ((q : Int) == g) = false := by simp; omega
  clear h ap hI hJ hl hl2 hm hm2 hne
  go_enter Try.func19, Try.ntmps19
  go_wp2
  go_cut [] (fun wx => Hid (∃ (v : Value) (w2 : World), wx = w2.setCell ⟨qb, q, none⟩ v ∧ Ints v (castL l ++ castL l2) w2 ∧ Turn NoBlock W w2 ∧ ∀ j, Blk v j → W.heap.size ≤ j))
  case first =>
    go_region_law (first
      | (refine step_join _ rfl (.tmp 42) (.tmp 49) rfl (.slice none 0 0) (.slice pr m cr) [] (castL l) rfl rfl (ints_nil _) (((Hid.out HS) _ ((Turn.refl _ _).drew)).1) (Hid.out HLn).1 ?_; intro v1 w1 J1; have K1 : Hid (Ints v1 (castL l) w1 ∧ Turn NoBlock W w1 ∧ ∀ j, Blk v1 j → W.heap.size ≤ j) := (by exact nil_join ((Turn.refl _ _).drew) J1); clear J1; obtain ⟨b0, b1, b2, b3⟩ := (Hid.out HC) w1 (Hid.out K1).2.1)
      | (refine step_join _ rfl (.tmp 50) (.tmp 57) rfl v1 (.slice ps m2 cs) (castL l) (castL l2) rfl rfl (Hid.out K1).1 (((Hid.out HS) _ (Hid.out K1).2.1).2) (Hid.out HLn).2 ?_; intro v2 w2 J2; obtain ⟨pv, n2, cv, rfl, K2'⟩ := next_join' (Hid.out K1).2 (Turn.refl _ _) J2; have K2 : Hid (Ints (.slice pv n2 cv) (castL l ++ castL l2) w2 ∧ Turn NoBlock W w2 ∧ ∀ j, Blk (.slice pv n2 cv) j → W.heap.size ≤ j) := K2'; clear K2' J2; obtain ⟨e0, e1, e2, e3⟩ := (Hid.out HC) w2 (Hid.out K2).2.1))
    all_goals
      go_wp2
      go_meet
      exact ⟨_, _, rfl, K2.out⟩
  case rest =>
    obtain ⟨v, w2, rfl, K2⟩ := hcut.out
    obtain ⟨FF, f0, f1, f2⟩ := HF.out _ _ K2.2.1 K2.1 K2.2.2
    have FF' := Lib.hid FF
    clear FF hcut K2
    go_wp2
    go_ret
    exact ⟨rfl, FF'.out⟩

end Go.Proofs.Ytpfoleaampcibaa
