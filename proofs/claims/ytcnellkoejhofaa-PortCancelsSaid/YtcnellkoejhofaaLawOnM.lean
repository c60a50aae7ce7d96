/-
  PortOnce's state: how many watches were made, fired, and taken; no key twice. No walk, no conditions.
-/
import Derived.Test.YtcnellkoejhofaaLawRM
import Derived.Test.YtcnellkoejhofaaQViewO
namespace Go.Proofs.Ytcnellkoejhofaa
open Go.ChangeShapes Go.WideShapes Go.ChangeAt Go.RowKit

def kQ (Q : List Pk) : List Int := Q.map Pk.k
def kW (Ws : List Wc) : List Int := Ws.map Wc.k
/-- Behind i calls: wd watches were made, fd fired, tk packets were taken. -/
structure ON (i : Nat) (Q : List Pk) (Ws : List Wc) (wd fd tk : Nat) : Prop where
  nodup : (kQ Q ++ kW Ws).Nodup
  keys : ∀ x ∈ kQ Q ++ kW Ws, ∃ j : Nat, x = (j : Int) ∧ j < i
  src : ∀ p ∈ Q, 1 ≤ p.s
  wlen : Ws.length + fd = wd
  qlen : Q.length + tk = fd
  le : wd ≤ i
theorem on_start : ON 0 [] [] 0 0 0 := ⟨List.nodup_nil, (fun x hx => by cases hx), (fun x hx => by cases hx), rfl, rfl, Nat.le_refl _⟩
section
variable {i wd fd tk : Nat} {Q : List Pk} {Ws : List Wc}
theorem ON.nothing (h : ON i Q Ws wd fd tk) : ON (i + 1) Q Ws wd fd tk :=
  ⟨h.nodup, fun x hx => by obtain ⟨j, e, hj⟩ := h.keys x hx; exact ⟨j, e, by omega⟩, h.src, h.wlen, h.qlen, by have := h.le; omega⟩
theorem ON.users (h : ON i Q Ws wd fd tk) : usersN Q = 0 := by
  unfold usersN
  rw [List.countP_eq_zero]
  intro p hp
  have := h.src p hp
  simp
  omega
theorem ON.taken {p : Pk} (h : ON i (p :: Q) Ws wd fd tk) : ON (i + 1) Q Ws wd fd (tk + 1) := by
  refine ⟨(List.nodup_cons.1 h.nodup).2, fun x hx => ?_, fun q hq => h.src q (List.mem_cons_of_mem _ hq), h.wlen, ?_, by have := h.le; omega⟩
  · obtain ⟨j, e, hj⟩ := h.keys x (List.mem_cons_of_mem _ hx)
    exact ⟨j, e, by omega⟩
  · have := h.qlen
    simp only [List.length_cons] at this
    omega
theorem ON.watch (h : ON i Q Ws wd fd tk) (o m : Int) : ON (i + 1) Q (Ws ++ [⟨o, (i : Int), m⟩]) (wd + 1) fd tk := by
  have e : kQ Q ++ kW (Ws ++ [⟨o, (i : Int), m⟩]) = (kQ Q ++ kW Ws) ++ [(i : Int)] := by simp [kW]
  refine ⟨?_, fun x hx => ?_, h.src, by rw [List.length_append, List.length_singleton]; have := h.wlen; omega, h.qlen, by have := h.le; omega⟩
  · rw [e, List.nodup_append]
    refine ⟨h.nodup, by simp, fun a ha b hb => ?_⟩
    obtain ⟨j, rfl, hj⟩ := h.keys a ha
    simp at hb
    subst hb
    omega
  · rw [e] at hx
    rcases List.mem_append.1 hx with h1 | h1
    · obtain ⟨j, e, hj⟩ := h.keys x h1
      exact ⟨j, e, by omega⟩
    · simp at h1
      exact ⟨i, h1, by omega⟩
theorem fire_perm (Ws : List Wc) (o s : Int) : (kQ (packs (ofO Ws o) o s) ++ kW (telL Ws o s)).Perm (kW Ws) := by
  have e1 : kQ (packs (ofO Ws o) o s) = (Ws.filter (fun t => t.o == o && meetB t.m s)).map Wc.k := by
    unfold kQ packs ofO
    rw [List.map_map, List.filter_filter]
    congr 1
    apply List.filter_congr
    intro t _
    rw [Bool.and_comm]
  have h : ((Ws.filter (fun t => t.o == o && meetB t.m s)) ++ (Ws.filter (fun t => !(t.o == o && meetB t.m s)))).Perm Ws := List.filter_append_perm _ _
  have h2 := h.map Wc.k
  rw [List.map_append] at h2
  rw [e1]
  exact h2
theorem ON.tell (h : ON i Q Ws wd fd tk) (o s : Int) (hW : ∀ t ∈ Ws, 1 ≤ t.o) : ON (i + 1) (Q ++ packs (ofO Ws o) o s) (telL Ws o s) wd (fd + telN Ws o s) tk := by
  have e : kQ (Q ++ packs (ofO Ws o) o s) ++ kW (telL Ws o s) = kQ Q ++ (kQ (packs (ofO Ws o) o s) ++ kW (telL Ws o s)) := by unfold kQ; rw [List.map_append, List.append_assoc]
  have hp : (kQ (Q ++ packs (ofO Ws o) o s) ++ kW (telL Ws o s)).Perm (kQ Q ++ kW Ws) := by rw [e]; exact (fire_perm Ws o s).append_left _
  have hd := dropW_len Ws o (fun t => meetB t.m s)
  have hn := telN_eq Ws o s
  have hpl := packs_len (ofO Ws o) o s
  refine ⟨hp.nodup_iff.2 h.nodup, fun x hx => ?_, fun q hq => ?_, ?_, ?_, by have := h.le; omega⟩
  · obtain ⟨j, e, hj⟩ := h.keys x (hp.mem_iff.1 hx)
    exact ⟨j, e, by omega⟩
  · rcases List.mem_append.1 hq with h1 | h1
    · exact h.src q h1
    · unfold packs at h1
      obtain ⟨t, ht, rfl⟩ := List.mem_map.1 h1
      have h2 := ofO_mem (List.mem_filter.1 ht).1
      have := hW t h2.1
      show 1 ≤ o
      omega
  · have := h.wlen
    unfold telL
    omega
  · have := h.qlen
    rw [List.length_append]
    omega
theorem ON.ne (h : ON i Q Ws wd fd tk) {a b : Nat} {p q : Pk} (hab : a < b) (ha : Q[a]? = some p) (hb : Q[b]? = some q) : p.k ≠ q.k := by
  have hn := (List.nodup_append.1 h.nodup).1
  intro e
  have h1 : (kQ Q)[a]? = some q.k := by unfold kQ; rw [List.getElem?_map, ha]; simp [e]
  have h2 : (kQ Q)[b]? = some q.k := by unfold kQ; rw [List.getElem?_map, hb]; rfl
  have := (List.getElem?_inj (by have := (List.getElem?_eq_some_iff.1 h1).1; exact this) hn).1 (h1.trans h2.symm)
  omega
end
/-- The law's state: the port and what it is like. -/
structure OS (w0 wr : World) (c : Nat) (i wd fd tk : Nat) : Prop where
  ex : ∃ Q Ws, PSt w0 wr c 100 50 Q Ws NoBlock ∧ ON i Q Ws wd fd tk
  le : wd ≤ i ∧ fd ≤ wd ∧ tk ≤ fd
  turn : Turn NoBlock w0 wr
section
variable {w0 w w' : World} {c i wd fd tk : Nat} {Q : List Pk} {Ws : List Wc}
theorem os_of (h : PSt w0 w c 100 50 Q Ws NoBlock) (k : ON i Q Ws wd fd tk) : OS w0 w c i wd fd tk := by
  have := k.le; have := k.wlen; have := k.qlen
  exact ⟨⟨Q, Ws, h, k⟩, ⟨by omega, by omega, by omega⟩, h.turn⟩
theorem OS.past (h : OS w0 w c i wd fd tk) (t : Turn NoBlock w w') : OS w0 w' c i wd fd tk := by
  obtain ⟨Q, Ws, h1, h2⟩ := h.ex
  exact ⟨⟨Q, Ws, h1.past t, h2⟩, h.le, TT h.turn t⟩
theorem OS.nothing (h : OS w0 w c i wd fd tk) : OS w0 w c (i + 1) wd fd tk := by
  obtain ⟨Q, Ws, h1, h2⟩ := h.ex
  exact os_of h1 h2.nothing
theorem OS.take (h : OS w0 w c i wd fd tk) : Calls Try.prog 12 #[.pointer (some ⟨c, 0, none⟩)] w fun x w' => ∃ a b d e, x = .returned (.tuple #[.agg #[.int .i64 a, .int .i64 b, .int .i64 d], .int .i64 e]) ∧ ((e ≠ 0 ∧ OS w0 w' c (i + 1) wd fd tk) ∨ (e = 0 ∧ b ≠ 0 ∧ OS w0 w' c (i + 1) wd fd (tk + 1))) := by
  obtain ⟨Q, Ws, h1, h2⟩ := h.ex
  refine h1.take.mono ?_
  rintro x w2 ⟨rfl, g1, -⟩
  cases Q with
  | nil => exact ⟨0, 0, 0, -22, rfl, .inl ⟨by omega, os_of g1 h2.nothing⟩⟩
  | cons p r =>
    refine ⟨p.k, p.s, p.v, 0, rfl, .inr ⟨rfl, ?_, os_of g1 h2.taken⟩⟩
    have := h2.src p List.mem_cons_self
    omega
theorem OS.watch (h : OS w0 w c i wd fd tk) (o n : Int) (ho : fit o) : Calls Try.prog 15 #[.pointer (some ⟨c, 0, none⟩), .int .i64 o, .int .i64 (i : Int), .int .i64 n] w fun x w' => ∃ e, x = .returned (.int .i64 e) ∧ ((e ≠ 0 ∧ OS w0 w' c (i + 1) wd fd tk) ∨ (e = 0 ∧ OS w0 w' c (i + 1) (wd + 1) fd tk)) := by
  obtain ⟨Q, Ws, h1, h2⟩ := h.ex
  refine (h1.watch o (i : Int) n ho).mono ?_
  rintro x w2 ⟨rfl, g1, -⟩
  refine ⟨_, rfl, ?_⟩
  unfold watL at g1
  by_cases h0 : watS 50 Q Ws o n = 0
  · rw [if_pos h0] at g1
    exact .inr ⟨h0, os_of g1 (h2.watch o n)⟩
  · rw [if_neg h0] at g1
    exact .inl ⟨h0, os_of g1 h2.nothing⟩
theorem OS.tell (h : OS w0 w c i wd fd tk) (o s : Int) (ho : fit o) : Calls Try.prog 17 #[.pointer (some ⟨c, 0, none⟩), .int .i64 o, .int .i64 s] w fun x w' => ∃ n : Nat, x = .returned (.int .i64 (n : Int)) ∧ fd + n ≤ i ∧ OS w0 w' c (i + 1) wd (fd + n) tk := by
  obtain ⟨Q, Ws, h1, h2⟩ := h.ex
  refine (h1.tell o s ho).mono ?_
  rintro x w2 ⟨rfl, g1, -⟩
  have h3 := h2.tell o s h1.ok.objs
  have := h3.wlen
  have := h2.le
  exact ⟨_, rfl, by omega, os_of g1 h3⟩
/-- One number more in a row, the other rows as they were. -/
theorem nums_push {v : Value} {xs : List Int} (h : Nums v xs w) (x : Int) (hn : xs.length ≤ 100000) :
    ∃ p n cap p' cap' W1, v = .slice p n cap ∧ n = xs.length ∧ (∀ ty, (Builtin.append_ #[55, 55] ty #[.slice p n cap, .slice (some ⟨w.heap.size, 0, none⟩) 1 1]).run Try.prog (w.alloc (.cells #[.int .i64 x] 3)) = .ok (.slice p' (n + 1) cap') W1) ∧
      Nums (.slice p' (n + 1) cap') (xs ++ [x]) W1 ∧ Turn (Blk v) w W1 ∧ ∀ k, Blk (.slice p' (n + 1) cap') k → Blk v k ∨ w.heap.size ≤ k := by
  obtain ⟨iI, hiI, hzI, hsI, hbI⟩ := info_parts infoI
  obtain ⟨p, cap, hv⟩ := WRow.sl h
  have tA : Turn NoBlock w (w.alloc (.cells #[.int .i64 x] 3)) := (Turn.refl _ w).alloc _
  obtain ⟨v', W1, hap, h1, h2, h3⟩ := WRow.append (h.past tA) 55 55 iI _ 8 intsT hiI hzI hsI hbI rfl ((rd_new w 3 1 #[.int .i64 x] rfl).src 55 3 intsT (icells_one [x])) (by unfold maxLen; omega) (by omega)
  obtain ⟨p', cap', rfl⟩ := h1.sl
  refine ⟨p, xs.length, cap, p', cap', W1, hv, rfl, fun ty => by rw [← hv]; exact hap ty, ?_, (TU tA).trans h2 (fun _ h => .inl h), fun k hk => (h3 k hk).imp id (fun e => by have := tA.size; omega)⟩
  unfold Nums icells
  rw [List.map_append, List.length_append]
  exact h1
end
end Go.Proofs.Ytcnellkoejhofaa
