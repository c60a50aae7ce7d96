/-
  PortCancels' state: all watches are of the object 7; how many have the key. No walk, no conditions.
-/
import Derived.Test.YtcnellkoejhofaaLawOnM
import Derived.Test.YtcnellkoejhofaaQBack
namespace Go.Proofs.Ytcnellkoejhofaa
open Go.ChangeShapes Go.WideShapes Go.ChangeAt Go.RowKit

def cntW (Ws : List Wc) (key : Int) : Nat := (kW Ws).count key
/-- So many watches, all of the object 7, n of them with the key. -/
structure CN (key : Int) (i : Nat) (Ws : List Wc) (n : Nat) : Prop where
  all : ∀ t ∈ Ws, t.o = 7
  len : Ws.length = i
  cnt : cntW Ws key = n
theorem cn_nil (key : Int) : CN key 0 [] 0 := ⟨(fun t ht => by cases ht), rfl, rfl⟩
section
variable {key k m : Int} {i n : Nat} {Ws : List Wc}
theorem CN.push (h : CN key i Ws n) : CN key (i + 1) (Ws ++ [⟨7, k, m⟩]) (n + if k = key then 1 else 0) := by
  refine ⟨fun t ht => ?_, by rw [List.length_append, h.len]; rfl, ?_⟩
  · rcases List.mem_append.1 ht with h1 | h1
    · exact h.all t h1
    · rw [List.mem_singleton] at h1; rw [h1]
  · have := h.cnt
    unfold cntW kW at this ⊢
    rw [List.map_append, List.count_append, this]
    by_cases hk : k = key <;> simp [hk]
theorem CN.le (h : CN key i Ws n) : n ≤ i := by
  have := h.cnt
  have h2 := h.len
  unfold cntW at this
  rw [← this, ← h2]
  have := List.count_le_length (a := key) (l := kW Ws)
  simpa [kW] using this
theorem all7 {Ws : List Wc} (h : ∀ t ∈ Ws, t.o = 7) : ofO Ws 7 = Ws := by
  unfold ofO
  rw [List.filter_eq_self]
  intro t ht
  simp [h t ht]
theorem sub7 {Ws : List Wc} (h : ∀ t ∈ Ws, t.o = 7) (o : Int) (P : Wc → Bool) : ∀ t ∈ dropW Ws o P, t.o = 7 := fun t ht => h t (List.mem_filter.1 ht).1
theorem gone_count {Ws : List Wc} (h : ∀ t ∈ Ws, t.o = 7) (key : Int) : goneN Ws 7 (fun t => t.k == key) = (kW Ws).count key := by
  unfold goneN kW
  rw [all7 h, List.count, List.countP_map, List.countP_eq_length_filter]
  rfl
theorem back_count {Q : List Pk} (h : ∀ p ∈ Q, p.s = 7) (key : Int) : backN Q 7 key = (kQ Q).count key := by
  unfold backN kQ
  rw [List.count, List.countP_map, List.countP_eq_length_filter]
  congr 1
  apply List.filter_congr
  intro p hp
  simp [backP, h p hp]
theorem packs7 (l : List Wc) (s : Int) : ∀ p ∈ packs l 7 s, p.s = 7 := by
  intro p hp
  unfold packs at hp
  obtain ⟨t, _, rfl⟩ := List.mem_map.1 hp
  rfl
/-- Behind Tell: how many fired, and what is left. -/
theorem CN.tell (h : CN key i Ws n) (s : Int) : (telL Ws 7 s).length + (packs (ofO Ws 7) 7 s).length = i ∧ (∀ t ∈ telL Ws 7 s, t.o = 7) ∧ canN (packs (ofO Ws 7) 7 s) (telL Ws 7 s) 7 key = n := by
  have hd := dropW_len Ws 7 (fun t => meetB t.m s)
  refine ⟨?_, sub7 h.all 7 _, ?_⟩
  · rw [packs_len]
    have := h.len
    unfold telL
    omega
  · unfold canN
    rw [gone_count (Ws := telL Ws 7 s) (sub7 h.all 7 _), back_count (packs7 _ _)]
    have hp := (fire_perm Ws 7 s).count_eq key
    rw [List.count_append] at hp
    have := h.cnt
    unfold cntW at this
    omega
end
section
variable {key : Int} {Q : List Pk} {Ws : List Wc}
theorem can_len : (canL Ws 7 key).length + (backL Q 7 key).length + canN Q Ws 7 key = Ws.length + Q.length := by
  have h1 := dropW_len Ws 7 (fun t => t.k == key)
  have h2 := back_len Q 7 key
  unfold canN goneN canL
  omega
theorem frg_all (hW : ∀ t ∈ Ws, t.o = 7) : frgN Ws 7 = Ws.length ∧ frgL Ws 7 = [] := by
  constructor
  · unfold frgN goneN
    rw [all7 hW]
    simp
  · unfold frgL dropW
    rw [List.filter_eq_nil_iff]
    intro t ht
    simp [hW t ht]
theorem back_mem {p : Pk} (hQ : ∀ p ∈ Q, p.s = 7) (hp : p ∈ backL Q 7 key) : (p.k == key) = false ∧ (p.s != 7) = false := by
  unfold backL at hp
  obtain ⟨h1, h2⟩ := List.mem_filter.1 hp
  have h3 := hQ p h1
  simp [backP, h3] at h2
  exact ⟨by simpa using h2, by simp [h3]⟩
end
section
variable {w0 w w' : World} {c : Nat} {key k m : Int} {i n : Nat} {Ws : List Wc} {Q : List Pk}
theorem fit7 : fit 7 := by unfold fit; omega
theorem ca_watch (h : PSt w0 w c 1 200 [] Ws NoBlock) (k m : Int) (hm : m ≠ 0) (hl : Ws.length < 200) : Calls Try.prog 15 #[.pointer (some ⟨c, 0, none⟩), .int .i64 7, .int .i64 k, .int .i64 m] w fun x w' => x = .returned (.int .i64 0) ∧ PSt w0 w' c 1 200 [] (Ws ++ [⟨7, k, m⟩]) NoBlock := by
  have := h.watch 7 k m fit7
  have e : watS 200 [] Ws 7 m = 0 := by
    unfold watS
    rw [if_neg (by rintro (h2 | h2); omega; exact hm h2), if_neg]
    show ¬ (Ws.length : Int) + (0 - 0) = 200
    omega
  unfold watL at this
  rw [e, if_pos rfl] at this
  exact this.mono (fun _ _ hh => ⟨hh.1, hh.2.1⟩)
/-- What stands behind Tell. -/
structure CA (w0 wr : World) (c : Nat) (key : Int) (len f n : Nat) : Prop where
  ex : ∃ Q Ws, PSt w0 wr c 1 200 Q Ws NoBlock ∧ (∀ p ∈ Q, p.s = 7) ∧ (∀ t ∈ Ws, t.o = 7) ∧ Q.length = f ∧ Ws.length + f = len ∧ canN Q Ws 7 key = n
theorem ca_tell (h : PSt w0 w c 1 200 [] Ws NoBlock) (hC : CN key i Ws n) : Calls Try.prog 17 #[.pointer (some ⟨c, 0, none⟩), .int .i64 7, .int .i64 1] w fun x w' => ∃ f : Nat, x = .returned (.int .i64 (f : Int)) ∧ f ≤ i ∧ CA w0 w' c key i f n := by
  obtain ⟨h1, h2, h3⟩ := hC.tell (s := 1)
  refine (h.tell 7 1 fit7).mono ?_
  rintro x w2 ⟨rfl, g1, -⟩
  rw [List.nil_append] at g1
  exact ⟨_, rfl, by rw [telN_eq]; omega, ⟨_, _, g1, packs7 _ _, h2, (telN_eq Ws 7 1).symm, by rw [telN_eq]; exact h1, h3⟩⟩
theorem CA.watches {len f : Nat} (h : CA w0 w c key len f n) : Calls Try.prog 25 #[.pointer (some ⟨c, 0, none⟩)] w fun x w' => x = .returned (.int .i64 ((len : Int) - (f : Int))) ∧ w = w' := by
  obtain ⟨Q, Ws, h1, -, -, -, h5, -⟩ := h.ex
  have := h1.watches
  rw [show (Ws.length : Int) = (len : Int) - (f : Int) by omega] at this
  exact this
/-- What stands behind Cancel. -/
structure CB (w0 wr : World) (c : Nat) (key : Int) (len q n : Nat) : Prop where
  ex : ∃ Q Ws, PSt w0 wr c 1 200 Q Ws NoBlock ∧ (∀ p ∈ Q, (p.k == key) = false ∧ (p.s != 7) = false) ∧ (∀ t ∈ Ws, t.o = 7) ∧ Q.length = q ∧ Ws.length + q + n = len
theorem CA.cancel {len f : Nat} (h : CA w0 w c key len f n) : Calls Try.prog 19 #[.pointer (some ⟨c, 0, none⟩), .int .i64 7, .int .i64 key] w fun x w' => x = .returned (.int .i64 (if n = 0 then -25 else 0)) ∧ ∃ q, q + n ≤ len ∧ CB w0 w' c key len q n := by
  obtain ⟨Q, Ws, h1, h2, h3, h4, h5, h6⟩ := h.ex
  refine (h1.cancel 7 key fit7).mono ?_
  rintro x w2 ⟨rfl, g1, -⟩
  have hl := can_len (key := key) (Q := Q) (Ws := Ws)
  rw [h6] at hl
  refine ⟨by unfold canS; rw [h6], (backL Q 7 key).length, by omega, ⟨_, _, g1, fun p hp => back_mem h2 hp, sub7 h3 7 _, rfl, by omega⟩⟩
theorem CB.watches {len q : Nat} (h : CB w0 w c key len q n) : Calls Try.prog 25 #[.pointer (some ⟨c, 0, none⟩)] w fun x w' => x = .returned (.int .i64 ((len : Int) - (n : Int) - (q : Int))) ∧ w = w' := by
  obtain ⟨Q, Ws, h1, -, -, -, h5⟩ := h.ex
  have := h1.watches
  rw [show (Ws.length : Int) = (len : Int) - (n : Int) - (q : Int) by omega] at this
  exact this
theorem CB.size {len q : Nat} (h : CB w0 w c key len q n) : Calls Try.prog 24 #[.pointer (some ⟨c, 0, none⟩)] w fun x w' => x = .returned (.int .i64 (q : Int)) ∧ w = w' := by
  obtain ⟨Q, Ws, h1, -, -, h4, -⟩ := h.ex
  have := h1.len
  rw [h4] at this
  exact this
/-- What stands behind Forget. -/
structure CZ (w0 wr : World) (c : Nat) (key : Int) (Q : List Pk) : Prop where
  st : PSt w0 wr c 1 200 Q [] NoBlock
  all : ∀ p ∈ Q, (p.k == key) = false ∧ (p.s != 7) = false
theorem CB.forget {len q : Nat} (h : CB w0 w c key len q n) : Calls Try.prog 21 #[.pointer (some ⟨c, 0, none⟩), .int .i64 7] w fun x w' => x = .returned (.int .i64 ((len : Int) - (n : Int) - (q : Int))) ∧ ∃ Q, Q.length = q ∧ CZ w0 w' c key Q := by
  obtain ⟨Q, Ws, h1, h2, h3, h4, h5⟩ := h.ex
  refine (h1.forget 7 fit7).mono ?_
  rintro x w2 ⟨rfl, g1, -⟩
  rw [(frg_all h3).1, (frg_all h3).2] at *
  exact ⟨ret_int (by omega), Q, h4, g1, h2⟩
end
end Go.Proofs.Ytcnellkoejhofaa
