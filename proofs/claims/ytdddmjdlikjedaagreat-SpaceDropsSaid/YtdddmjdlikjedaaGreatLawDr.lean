/-
  SpaceDrops' calls: a set of objects of one page each, one of them dropped.
-/
import Derived.Test.YtdddmjdlikjedaaGreatSDrop1
import Derived.Test.YtdddmjdlikjedaaGreatSAll
namespace Go.Proofs.YtdddmjdlikjedaaGreat
open Go.ChangeShapes Go.WideShapes Go.ChangeAt Go.RowKit

def Mk (k : Nat) : Mod := ⟨10, k, k, fun j => if 1 ≤ j ∧ j ≤ (k : Int) then some (newOb 64 0 0 0) else none, List.replicate 20 Pg.none⟩
theorem mk_at {k : Nat} {j : Int} (h : 1 ≤ j ∧ j ≤ (k : Int)) : (Mk k).O j = some (newOb 64 0 0 0) := if_pos h
theorem mk_no {k : Nat} {j : Int} (h : ¬ (1 ≤ j ∧ j ≤ (k : Int))) : (Mk k).O j = none := if_neg h
theorem mk_is {k : Nat} {j : Int} {o : Ob} (h : (Mk k).O j = some o) : (1 ≤ j ∧ j ≤ (k : Int)) ∧ o = newOb 64 0 0 0 := by
  by_cases e : 1 ≤ j ∧ j ≤ (k : Int)
  · rw [mk_at e] at h
    cases h
    exact ⟨e, rfl⟩
  · rw [mk_no e] at h
    cases h
theorem mk_zero : M0 20 10 = Mk 0 := by
  unfold M0 Mk
  congr 1
  funext j
  rw [if_neg (by omega)]
theorem mk_add (k : Nat) : addM (Mk k) (newOb 64 0 0 0) = Mk (k + 1) := by
  unfold addM Mk
  congr 1
  funext j
  unfold updI
  simp only
  by_cases e : j = (k : Int) + 1
  · rw [if_pos e, if_pos (by omega)]
  · rw [if_neg e]
    by_cases e2 : 1 ≤ j ∧ j ≤ (k : Int)
    · rw [if_pos e2, if_pos (by omega)]
    · rw [if_neg e2, if_neg (by omega)]
theorem mk_fam {k : Nat} (q : Key) : famOf (Mk k).O q = none := by
  unfold famOf
  cases h : (Mk k).O q.1 with
  | none => rfl
  | some o => rw [(mk_is h).2]; rfl
theorem mk_chain (k : Nat) : Chain (Mk k).O := by
  refine ⟨fun i x hx hd => ?_, fun i x hx => ?_, fun i x hx hd => ?_⟩
  · rw [(mk_is hx).2] at hd
    exact absurd hd (Nat.lt_irrefl 0)
  · rw [(mk_is hx).2]
    exact ⟨by decide, by decide, by decide⟩
  · rw [(mk_is hx).2] at hd
    exact absurd hd (Nat.lt_irrefl 0)
theorem mk_inv (k : Nat) : Inv8 (Mk k) := ⟨(Good.start 20).congr mk_fam, mk_chain k, few_start 20⟩
theorem cnt_none {f : Int → Bool} (n : Nat) (h : ∀ j, f j = false) : cntI f n = 0 := by
  induction n with
  | zero => rfl
  | succ n ih => unfold cntI; rw [ih, h]; rfl
theorem cnt_full {f : Int → Bool} (n : Nat) (h : ∀ j, 1 ≤ j → j ≤ (n : Int) → f j = true) : cntI f n = n := by
  induction n with
  | zero => rfl
  | succ n ih => unfold cntI; rw [ih (fun j h1 h2 => h j h1 (by omega)), h _ (by omega) (by omega)]; rfl
theorem mk_tree (k : Nat) : Tree (Mk k) := by
  refine ⟨fun i o h => (mk_is h).1, fun i o h => ?_, fun i o h => ?_, fun i o h => ?_, ?_, fun i o q h hq => ?_⟩
  · have := mk_is h
    rw [this.2]
    exact ⟨by show ((0 : Nat) : Int) < i; omega, .inl rfl⟩
  · rw [(mk_is h).2, cnt_none]
    · rfl
    · intro j
      unfold isK
      cases hj : (Mk k).O j with
      | none => rfl
      | some x =>
        rw [(mk_is hj).2]
        have := (mk_is h).1
        exact decide_eq_false (fun e => by have e' : ((0 : Nat) : Int) = i := e; omega)
  · rw [(mk_is h).2, cnt_none]
    · rfl
    · intro j
      unfold isS
      cases hj : (Mk k).O j with
      | none => rfl
      | some x =>
        rw [(mk_is hj).2]
        exact Bool.and_false _
  · show k = cntI (isL (Mk k).O) k
    rw [cnt_full]
    intro j h1 h2
    unfold isL
    rw [mk_at ⟨h1, h2⟩]
    rfl
  · rw [(mk_is h).2]
    rfl
/-- Behind the drop of one. -/
structure Dn (M : Mod) (n : Nat) (d : Int) : Prop where
  at' : ∀ j, 1 ≤ j → j ≤ (n : Int) → j ≠ d → M.O j = some (newOb 64 0 0 0)
  gone : Dr M d
  inv : Inv8 M
  made : M.made = n
section
variable {w0 w w' : World} {c s a : Nat} {size most : Int} {r : Rep} {M : Mod} {l : List Pc} {o : Ob} {n : Nat} {d : Int}
theorem mk_create (h : SMem w s r (Mk n)) (hn : n ≤ 8) : Calls Tryz.prog 7 #[.pointer (some ⟨s, 0, none⟩), .int .i64 64] w fun e w' => e = .returned (.tuple #[.int .i64 ((n : Int) + 1), .int .i64 0]) ∧ ∃ r', SMem w' s r' (Mk (n + 1)) ∧ VNext w s r w' r' := by
  have hs : createS (Mk n) 64 = 0 := by
    unfold createS Mk
    rw [if_neg (by omega), if_neg (by omega), if_neg (by simp only; omega)]
  refine (create_yes h 64 hs (show 10 ≤ 65536 by decide) (show n < 4611686018427387904 by omega)).mono ?_
  rintro e w' ⟨h1, r', h2, h3⟩
  refine ⟨h1, r', ?_, h3⟩
  rw [← mk_add]
  exact h2
theorem mk_drop (h : SMem w s r (Mk n)) (hn : n ≤ 8) (hd : 1 ≤ d ∧ d ≤ (n : Int)) : Calls Tryz.prog 9 #[.pointer (some ⟨s, 0, none⟩), .int .i64 d] w fun e w' => ∃ (q : Option Addr) (m cq : Nat) (r' : Rep) (M' : Mod), e = .returned (.tuple #[.slice q m cq, .int .i64 0]) ∧ SMem w' s r' M' ∧ VNext w s r w' r' ∧ Dn M' n d := by
  refine (drop_lone h (mk_inv n) (mk_tree n) (fun j o hj hdr => by rw [(mk_is hj).2] at hdr; cases hdr) (show n < 140737488355 by omega) (mk_at hd) rfl (fun j x hj => by rw [(mk_is hj).2]; exact ⟨rfl, rfl⟩)).mono ?_
  rintro e w' ⟨p, cp, li, r', M', h1, h2, h3⟩
  exact ⟨p, _, cp, r', M', h1, h2.mem, h2.next, ⟨fun j g1 g2 g3 => by rw [h3 j g3]; exact mk_at ⟨g1, g2⟩, h2.dr, h2.inv, h2.made⟩⟩
set_option maxRecDepth 20000 in
/-- What is not there any more is not told. -/
theorem lies_gone (hc : SpAt w c s a) (hm : SMem w s r M) (i f m : Int) (hi : fit i) (hd : Dr M i) :
    Calls Tryz.prog 18 #[.pointer (some ⟨c, 0, none⟩), .int .i64 i, .int .i64 f, .int .i64 m] w fun e w' => e = .returned (.int .i64 (-25)) ∧ Turn NoBlock w w' := by
  have c0 := hc.c0
  cases hO : M.O i with
  | none =>
    have cI := info_no hm i hi hO
    clear hc hm hd hO
    go_enter Tryz.func18, Tryz.ntmps18
    go_wp2_with (go_at_call 32; (with_reducible refine cI.mono ?_); rintro e w1 ⟨rfl, t1⟩)
    go_ret
    exact ⟨rfl, t1.alloc _⟩
  | some o =>
    have cI := info_yes hm i hi hO
    have hdr := hd o hO
    unfold InfoOf at cI
    rw [hdr] at cI
    clear hc hm hd hO hdr
    go_enter Tryz.func18, Tryz.ntmps18
    go_wp2_with (go_at_call 32; (with_reducible refine cI.mono ?_); rintro e w1 ⟨rfl, t1⟩)
    go_ret
    exact ⟨rfl, t1.alloc _⟩
set_option maxRecDepth 20000 in
theorem read_gone (h : SMem w s r M) (i t m : Int) (hi : fit i) (hd : Dr M i) :
    Calls Tryz.prog 14 #[.pointer (some ⟨s, 0, none⟩), .int .i64 i, .int .i64 t, .int .i64 m] w fun e w' => e = .returned (.tuple #[.slice none 0 0, .int .i64 (-25)]) ∧ w = w' := by
  have c := find_no h i hi (by
    unfold findS
    cases hO : M.O i with
    | none => decide
    | some o =>
      show (if o.drp = true then (-25 : Int) else 0) ≠ 0
      rw [hd o hO]
      decide)
  clear h hd
  go_enter Tryz.func14, Tryz.ntmps14
  go_wp2_with (go_at_call 21; (with_reducible refine c.mono ?_); rintro x w1 ⟨rfl, rfl⟩)
  go_ret2
  exact ⟨rfl, rfl⟩
end
end Go.Proofs.YtdddmjdlikjedaaGreat
