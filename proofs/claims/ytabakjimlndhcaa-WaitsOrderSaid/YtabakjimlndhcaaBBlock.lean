/-
  A thread waits: Block, of all inputs. Conditions: the waits lie in memory, and the items can be read.
-/
import Derived.Test.YtabakjimlndhcaaBIdx
namespace Go.Proofs.Ytabakjimlndhcaa
open Go.ChangeShapes Go.WideShapes Go.ChangeAt Go.RowKit

/-- The lines where a wait stands: everybody's, and its items'. -/
def linesOf (its : List It) : List Int := its.foldl (fun l i => addLn l i.o) [0]
/-- Where the lines of the first j items are. -/
def linesAt (its : List It) (j : Nat) : List Int := linesOf (its.take j)
theorem linesAt_succ {its : List It} {j : Nat} {i : It} (h : its[j]? = some i) : linesAt its (j + 1) = addLn (linesAt its j) i.o := by
  unfold linesAt linesOf
  have : its.take (j + 1) = its.take j ++ [i] := by rw [List.take_add_one, h]; rfl
  rw [this, List.foldl_append]
  rfl
theorem addLn_len (l : List Int) (n : Int) : (addLn l n).length ≤ l.length + 1 := by
  unfold addLn
  split
  · omega
  · simp
theorem lines_len (its : List It) : ∀ l : List Int, (its.foldl (fun l i => addLn l i.o) l).length ≤ l.length + its.length := by
  induction its with
  | nil => intro l; simp
  | cons i r ih =>
    intro l
    have := ih (addLn l i.o)
    have := addLn_len l i.o
    simp only [List.foldl_cons, List.length_cons]
    omega
theorem addLn_mem {l : List Int} {n m : Int} : m ∈ addLn l n ↔ m ∈ l ∨ m = n := by
  unfold addLn
  split
  · rename_i h
    constructor
    · exact .inl
    · rintro (h1 | rfl)
      · exact h1
      · exact h
  · simp
theorem lines_mem (its : List It) (m : Int) : ∀ l : List Int, m ∈ its.foldl (fun l i => addLn l i.o) l ↔ m ∈ l ∨ ∃ i ∈ its, i.o = m := by
  induction its with
  | nil => intro l; simp
  | cons i r ih =>
    intro l
    rw [List.foldl_cons, ih, addLn_mem]
    constructor
    · rintro ((h | rfl) | ⟨j, hj, e⟩)
      · exact .inl h
      · exact .inr ⟨i, List.mem_cons_self, rfl⟩
      · exact .inr ⟨j, List.mem_cons_of_mem _ hj, e⟩
    · rintro (h | ⟨j, hj, e⟩)
      · exact .inl (.inl h)
      · rcases List.mem_cons.1 hj with rfl | hj
        · exact .inl (.inr e.symm)
        · exact .inr ⟨j, hj, e⟩
theorem linesOf_mem (its : List It) (m : Int) : m ∈ linesOf its ↔ m = 0 ∨ ∃ i ∈ its, i.o = m := by
  unfold linesOf
  rw [lines_mem]
  simp
/-- No key twice, each in the list: so many there are at most. -/
theorem nodup_len {A : Type} [DecidableEq A] : ∀ (K L : List A), K.Nodup → (∀ x ∈ K, x ∈ L) → K.length ≤ L.length
  | [], _, _, _ => Nat.zero_le _
  | a :: K, L, hn, hs => by
    have h1 := List.nodup_cons.1 hn
    have ha : a ∈ L := hs a List.mem_cons_self
    have h2 := nodup_len K (L.erase a) h1.2 (fun x hx => by
      have hne : x ≠ a := fun e => h1.1 (e ▸ hx)
      exact (List.mem_erase_of_ne hne).2 (hs x (List.mem_cons_of_mem _ hx)))
    rw [List.length_erase_of_mem ha] at h2
    have := List.length_pos_of_mem ha
    simp only [List.length_cons]
    omega
theorem flat_len (G : List Gw) (h : ∀ g ∈ G, g.pl.length ≤ 9) : (G.flatMap (fun g => g.pl.map Prod.fst)).length ≤ 9 * G.length := by
  induction G with
  | nil => simp
  | cons g G ih =>
    have h1 := h g List.mem_cons_self
    have h2 := ih (fun y hy => h y (List.mem_cons_of_mem _ hy))
    simp only [List.flatMap_cons, List.length_append, List.length_map, List.length_cons]
    omega
section
variable {w w' w1 : World} {c tm lm nT : Nat} {most : Int} {T : Int → Option Nat} {G A B : List Gw} {r : Int → Nat} {K : List Int} {g : Gw}
theorem GMem.klen (h : GMem w c most tm lm T nT G r K) (ht : Tight G K) (hp : ∀ g ∈ G, g.pl.length ≤ 9) : K.length ≤ 9 * G.length := by
  refine Nat.le_trans (nodup_len K (G.flatMap (fun g => g.pl.map Prod.fst)) h.nod (fun n hn => ?_)) (flat_len G hp)
  obtain ⟨p, hpp⟩ := List.exists_mem_of_ne_nil _ (ht n hn)
  obtain ⟨g, hg, h1⟩ := inL_mem hpp
  exact List.mem_flatMap.2 ⟨g, hg, List.mem_map.2 ⟨_, h1, rfl⟩⟩
/-- Where Block stands: the new wait is in the lines of l. -/
structure BlockAt (w : World) (c : Nat) (most : Int) (tm lm : Nat) (T : Int → Option Nat) (nT : Nat) (G : List Gw) (r : Int → Nat) (K : List Int) (x : Nat) (a : Wt) (iv : Value) (l : List Int) (W : World) : Prop where
  ex : ∃ g r' K', g.x = x ∧ g.a = a ∧ g.iv = iv ∧ g.pr = g.pl.map Prod.snd ∧ g.pl.map Prod.fst = l ∧ GMem W c most tm lm T nT (G ++ [g]) r' K' ∧ (Tight G K → Tight (G ++ [g]) K') ∧
    ∀ k, GFoot c tm lm (G ++ [g]) r' K' k → GFoot c tm lm G r K k ∨ w.heap.size ≤ k
  turn : Turn (GFoot c tm lm G r K) w W
theorem BlockAt.past {x : Nat} {a : Wt} {iv : Value} {l : List Int} {W W' : World} (h : BlockAt w c most tm lm T nT G r K x a iv l W) (t : Turn NoBlock W W') : BlockAt w c most tm lm T nT G r K x a iv l W' := by
  obtain ⟨g, r', K', h1, h2, h3, h4, h5, h6, h7, h8⟩ := h.ex
  exact ⟨⟨g, r', K', h1, h2, h3, h4, h5, h6.past t, h7, h8⟩, h.turn.trans t (fun _ h => h.elim)⟩
theorem BlockAt.stand {x : Nat} {a : Wt} {iv : Value} {l : List Int} {W : World} (h : BlockAt w c most tm lm T nT G r K x a iv l W) (ht : Tight G K) (hp : ∀ g ∈ G, g.pl.length ≤ 9) (hG : G.length ≤ 65536) (hl : l.length ≤ 9) (n : Int) (hn : fit n) :
    Calls Try.prog 53 #[.pointer (some ⟨c, 0, none⟩), .pointer (some ⟨x, 0, none⟩), .int .i64 n] W fun e w' => e = .returned (.tuple #[]) ∧ BlockAt w c most tm lm T nT G r K x a iv (addLn l n) w' := by
  obtain ⟨g, r', K', rfl, h2, h3, h4, h5, h6, h7, h8⟩ := h.ex
  have hgl : g.pl.length ≤ 9 := by rw [← List.length_map (f := Prod.fst), h5]; exact hl
  have hkl := h6.klen (h7 ht) (fun y hy => by
    rcases List.mem_append.1 hy with h9 | h9
    · exact hp y h9
    · rw [List.mem_singleton] at h9; subst h9; exact hgl)
  rw [List.length_append, List.length_singleton] at hkl
  refine (stand_any h6 h4 n hn (by omega) (by omega)).mono ?_
  rintro e w' ⟨rfl, g', r2, K2, hs⟩
  refine ⟨rfl, ⟨g', r2, K2, hs.x, hs.a.trans h2, hs.iv.trans h3, hs.pr, by rw [hs.ln, h5], hs.mem, fun h0 => hs.tight (h7 h0), fun k hk => ?_⟩, h.turn.trans hs.turn h8⟩
  rcases hs.foot k hk with h9 | h9
  · exact h8 k h9
  · exact .inr (Nat.le_trans h.turn.size h9)
theorem block_possible {c : Nat} (t d : Int) (v : Value) (its : List It) (hrow : IRow v its w) (hn : its.length ≤ 1000000000) (hno : t < 0 ∨ posB its = false) :
    Calls Try.prog 14 #[.pointer (some ⟨c, 0, none⟩), .int .i64 t, .int .i64 d, v] w fun e w' => e = .returned (.int .i64 (-10)) ∧ Turn NoBlock w w' := by
  have C := Lib.hid (possible_any hrow hn)
  obtain ⟨p, cap, rfl⟩ := WRow.sl hrow
  by_cases ht : t < 0
  · clear hrow C
    go_enter Try.func14, Try.ntmps14
    go_wp2
    go_ret
    exact ⟨rfl, Turn.refl _ _⟩
  · have hb := hno.resolve_left ht
    rw [hb] at C
    clear hrow hb
    go_enter Try.func14, Try.ntmps14
    go_wp2_with (go_at_call 51; (with_reducible refine C.out.mono ?_); rintro e w2 ⟨rfl, t2⟩; have T2 := Lib.hid t2; clear t2)
    go_ret
    exact ⟨rfl, T2.out⟩
theorem block_there (h : GMem w c most tm lm T nT G r K) (t d : Int) (v : Value) (its : List It) (hrow : IRow v its w) (hn : its.length ≤ 1000000000) (ht : ¬ t < 0) (hp : posB its = true) (hf : fit t) (hT : (T t).isSome = true) :
    Calls Try.prog 14 #[.pointer (some ⟨c, 0, none⟩), .int .i64 t, .int .i64 d, v] w fun e w' => e = .returned (.int .i64 (-26)) ∧ Turn NoBlock w w' := by
  have C := Lib.hid (possible_any hrow hn)
  have CB := Lib.hid (fun W (tt : Turn NoBlock w W) => blocked_any (h.past tt) t hf)
  rw [hT] at CB
  rw [hp] at C
  obtain ⟨p, cap, rfl⟩ := WRow.sl hrow
  clear h hrow hT hp
  go_enter Try.func14, Try.ntmps14
  go_wp2_with (first
    | (go_at_call 51; (with_reducible refine C.out.mono ?_); rintro e w2 ⟨rfl, t2⟩; have T2 := Lib.hid t2; clear t2)
    | (go_at_call 28; (with_reducible refine (CB.out _ T2.out).mono ?_); rintro e w3 ⟨rfl, rfl⟩))
  go_ret
  exact ⟨rfl, T2.out⟩
theorem block_full (h : GMem w c most tm lm T nT G r K) (t d : Int) (v : Value) (its : List It) (hrow : IRow v its w) (hn : its.length ≤ 1000000000) (ht : ¬ t < 0) (hp : posB its = true) (hf : fit t) (hT : (T t).isSome = false) (hm : (nT : Int) = most) :
    Calls Try.prog 14 #[.pointer (some ⟨c, 0, none⟩), .int .i64 t, .int .i64 d, v] w fun e w' => e = .returned (.int .i64 (-4)) ∧ Turn NoBlock w w' := by
  subst hm
  have C := Lib.hid (possible_any hrow hn)
  have CB := Lib.hid (fun W (tt : Turn NoBlock w W) => blocked_any (h.past tt) t hf)
  have HM := Lib.hid (fun W (tt : Turn NoBlock w W) => And.intro ((h.past tt).drew.c0) (And.intro ((h.past tt).drew.c1) (fun ty => (h.past tt).drew.tmap.len tmapU ty)))
  rw [hT] at CB
  rw [hp] at C
  obtain ⟨p, cap, rfl⟩ := WRow.sl hrow
  clear h hrow hT hp
  go_enter Try.func14, Try.ntmps14
  go_wp2_with (first
    | (go_at_call 51; (with_reducible refine C.out.mono ?_); rintro e w2 ⟨rfl, t2⟩; have T2 := Lib.hid t2; clear t2)
    | (go_at_call 28; (with_reducible refine (CB.out _ T2.out).mono ?_); rintro e w3 ⟨rfl, rfl⟩))
  obtain ⟨d0, d1, hl⟩ := HM.out w2 T2.out
  go_region
  go_wp2
  go_ret
  exact ⟨rfl, T2.out.drew⟩
end
end Go.Proofs.Ytabakjimlndhcaa
