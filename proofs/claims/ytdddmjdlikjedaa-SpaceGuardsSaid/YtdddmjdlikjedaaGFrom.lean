/-
  What end, multiple, grid, protects of region answer; where a number's place in a row of pieces is found. No conditions but that the pieces rise and lie in a region, and that arguments are numbers of 64 bits.
-/
import Derived.Test.YtdddmjdlikjedaaGPc
import Derived.Test.YtdddmjdlikjedaaGNum
import Derived.Deep.LoopGhost
import Derived.Deep.DeepCutAuto
namespace Go.Proofs.Ytdddmjdlikjedaa
open Go.ChangeShapes Go.WideShapes Go.ChangeAt Go.RowKit

theorem gend_any (p : Pc) (w : World) (h : fit p.fin) :
    Calls Try.prog 75 #[p.agg] w fun e w' => e = .returned (.int .i64 p.fin) ∧ Turn NoBlock w w' := by
  unfold Pc.fin fit at h
  unfold Pc.fin Pc.agg
  obtain ⟨a, l, v, f, r⟩ := p
  simp only at h ⊢
  obtain ⟨h1, h2⟩ := h
  go_enter Try.func75, Try.ntmps75
  go_wp2
  go_ret
  exact ⟨ret_int (by go_num), (Turn.refl NoBlock w).alloc _⟩

/-- The first piece that does not lie wholly ahead of a number. -/
structure FromIs (l : List Pc) (x : Int) (k : Nat) : Prop where
  le : k ≤ l.length
  low : ∀ (j : Nat) (p : Pc), j < k → l[j]? = some p → p.fin ≤ x
  high : ∀ (j : Nat) (p : Pc), k ≤ j → l[j]? = some p → x < p.fin
theorem FromIs.one {l : List Pc} {x : Int} {k k' : Nat} (h : FromIs l x k) (h' : FromIs l x k') : k = k' := by
  have key : ∀ {a b : Nat}, FromIs l x a → FromIs l x b → ¬ a < b := by
    intro a b ha hb hab
    have hlt : a < l.length := Nat.lt_of_lt_of_le hab hb.le
    have h1 := hb.low a _ hab (List.getElem?_eq_getElem hlt)
    have h2 := ha.high a _ (Nat.le_refl _) (List.getElem?_eq_getElem hlt)
    omega
  have := key h h'
  have := key h' h
  omega
theorem gget_some {α : Type} {l : List α} {k : Nat} (h : k < l.length) : ∃ y, l[k]? = some y := ⟨_, List.getElem?_eq_getElem h⟩
theorem GOK.fin {size : Int} {l : List Pc} (h : GOK size l) {i j : Nat} {p q : Pc} (hij : i < j) (hi : l[i]? = some p) (hj : l[j]? = some q) : p.fin < q.fin := by
  have h1 := rise_at h.rise hij hi hj
  have h2 := h.each q (List.mem_of_getElem? hj)
  unfold Pc.fin at *
  omega

theorem cmp_any (p : Pc) (x : Int) (w : World) (h : fit p.fin) :
    Calls Try.prog 104 #[p.agg, .int .i64 x] w fun e w' => e = .returned (.int .i64 (if p.fin ≤ x then -1 else 1)) ∧ Turn NoBlock w w' := by
  have c := gend_any p (w.alloc (.cells #[.int .i64 p.at', .int .i64 p.len, .int .i64 p.vmo, .int .i64 p.from', .int .i64 p.prot] 61)) h
  unfold Pc.agg at *
  generalize p.fin = f at *
  by_cases hx : f ≤ x
  · rw [if_pos hx]
    clear h
    go_enter Try.func104, Try.ntmps104
    go_wp2_with (go_at_call 75; (with_reducible refine c.mono ?_); rintro e w' ⟨rfl, t⟩; have K := Lib.hid t; clear t)
    go_ret
    exact ⟨rfl, ((Turn.refl NoBlock w).alloc _).trans K.out (fun _ h => .inl h)⟩
  · rw [if_neg hx]
    clear h
    go_enter Try.func104, Try.ntmps104
    go_wp2_with (go_at_call 75; (with_reducible refine c.mono ?_); rintro e w' ⟨rfl, t⟩; have K := Lib.hid t; clear t)
    go_ret
    exact ⟨rfl, ((Turn.refl NoBlock w).alloc _).trans K.out (fun _ h => .inl h)⟩

set_option maxRecDepth 20000 in
set_option maxHeartbeats 2000000 in
theorem search_any {w : World} {g n c : Nat} {l : List Pc} (h : PRow (.slice (some ⟨g, 0, none⟩) n c) l w) (hn : l.length = n) (hs : ∀ (i j : Nat) (p q : Pc), i < j → l[i]? = some p → l[j]? = some q → p.fin < q.fin) (hf : ∀ p ∈ l, fit p.fin) (x : Int) (hb : n ≤ 1048576) :
    Calls Try.prog 103 #[.slice (some ⟨g, 0, none⟩) n c, .int .i64 x, .func (.func 104) #[] #[]] w fun e w' => ∃ k : Nat, e = .returned (.tuple #[.int .i64 k, .bool false]) ∧ FromIs l x k ∧ Turn NoBlock w w' := by
  have HR := Lib.hid h
  have HN := Lib.hid hn
  have HS := Lib.hid hs
  have HF := Lib.hid hf
  have HC := Lib.hid (fun (p : Pc) (w' : World) (hp : fit p.fin) => cmp_any p x w' hp)
  clear h hn hs hf
  go_enter Try.func103, Try.ntmps103
  go_wp2
  go_loopg [9, 10] n (fun gh s9 s10 wr => ∃ i j : Nat, i ≤ j ∧ j ≤ n ∧ gh = j - i ∧ s9 = .int .i64 i ∧ s10 = .int .i64 j ∧ Hid (∀ (q : Nat) (p : Pc), q < i → l[q]? = some p → p.fin ≤ x) ∧ Hid (∀ (q : Nat) (p : Pc), j ≤ q → l[q]? = some p → x < p.fin) ∧ Hid (Turn NoBlock w wr))
  case atStart => exact ⟨0, n, by omega, by omega, by omega, rfl, rfl, Lib.hid (fun q p h => by omega), Lib.hid (fun q p h hp => by have := (List.getElem?_eq_some_iff.1 hp).1; have := HN.out; omega), Lib.hid (Turn.refl _ _)⟩
  case round =>
    obtain ⟨i, j, hij, hj, hg, rfl, rfl, HL, HH, HT⟩ := hrel
    by_cases hlt : i < j
    · obtain ⟨m, hm⟩ : ∃ m : Nat, m = (i + j) / 2 := ⟨_, rfl⟩
      have hmj : m < j := by omega
      obtain ⟨p, hp⟩ := gget_some (show m < l.length by rw [HN.out]; omega)
      have hpf := HF.out p (List.mem_of_getElem? hp)
      have hr := HR.out.past HT.out
      obtain ⟨c0, c1, c2, c3, c4⟩ := hr.five hp
      have cC := HC.out p wr hpf
      unfold Pc.agg at cC
      have hme : ((i : Int) + j) / 2 = (m : Int) := by omega
      have HP := Lib.hid (And.intro hp hm)
      have hmn : (m : Int) < n := by omega
      obtain ⟨pa, pl, pv, pf, pr⟩ := p
      simp only at c0 c1 c2 c3 c4 cC
      clear hr hp hm hpf
      by_cases hx : (⟨pa, pl, pv, pf, pr⟩ : Pc).fin ≤ x
      · rw [if_pos hx] at cC
        have HX := Lib.hid hx
        clear hx
        go_wp2_with (go_at_call 104; (with_reducible refine cC.mono ?_); rintro e w' ⟨rfl, t⟩; have K := Lib.hid t; clear t)
        go_roundg (j - (m + 1))
        case measure => omega
        case rel =>
          refine ⟨m + 1, j, by omega, hj, rfl, by go_num, rfl, Lib.hid (fun q p hq hp => ?_), HH, Lib.hid (HT.out.trans K.out (fun _ h => .inl h))⟩
          rcases Nat.lt_or_ge q m with h1 | h1
          · have := HS.out q m p _ h1 hp HP.out.1
            have := HX.out
            omega
          · obtain rfl : q = m := by omega
            rw [HP.out.1] at hp
            simp at hp
            subst hp; exact HX.out
      · rw [if_neg hx] at cC
        have HX := Lib.hid hx
        clear hx
        go_wp2_with (go_at_call 104; (with_reducible refine cC.mono ?_); rintro e w' ⟨rfl, t⟩; have K := Lib.hid t; clear t)
        go_roundg (m - i)
        case measure => omega
        case rel =>
          refine ⟨i, m, by omega, by omega, rfl, rfl, rfl, HL, Lib.hid (fun q p hq hp => ?_), Lib.hid (HT.out.trans K.out (fun _ h => .inl h))⟩
          rcases Nat.lt_or_ge m q with h1 | h1
          · have := HS.out m q _ p h1 HP.out.1 hp
            have := HX.out
            omega
          · obtain rfl : q = m := by omega
            rw [HP.out.1] at hp
            simp at hp
            subst hp
            have := HX.out
            omega
    · obtain rfl : i = j := by omega
      have hFI := Lib.hid (show FromIs l x i from ⟨by rw [HN.out]; exact hj, HL.out, HH.out⟩)
      by_cases hin : i < n
      · obtain ⟨p, hp⟩ := gget_some (show i < l.length by rw [HN.out]; exact hin)
        have hpf := HF.out p (List.mem_of_getElem? hp)
        have hr := HR.out.past HT.out
        obtain ⟨c0, c1, c2, c3, c4⟩ := hr.five hp
        have cC := HC.out p wr hpf
        rw [if_neg (by have := HH.out i p (Nat.le_refl _) hp; omega)] at cC
        unfold Pc.agg at cC
        obtain ⟨pa, pl, pv, pf, pr⟩ := p
        simp only at c0 c1 c2 c3 c4 cC
        clear hr hp hpf
        go_wp2_with (go_at_call 104; (with_reducible refine cC.mono ?_); rintro e w' ⟨rfl, t⟩; have K := Lib.hid t; clear t)
        go_ret2
        exact ⟨i, rfl, hFI.out, HT.out.trans K.out (fun _ h => .inl h)⟩
      · go_wp2
        go_ret2
        exact ⟨i, rfl, hFI.out, HT.out⟩

theorem gfrom_any {w : World} {a : Nat} {size most : Int} {v : Value} {l : List Pc} (h : GMem w a size most v l) (ok : GOK size l) (hb : l.length ≤ 65536) (x : Int) :
    Calls Try.prog 91 #[.pointer (some ⟨a, 0, none⟩), .int .i64 x] w fun e w' => ∃ k : Nat, e = .returned (.int .i64 k) ∧ FromIs l x k ∧ Turn NoBlock w w' := by
  have c2 := h.c2
  have hf : ∀ p ∈ l, fit p.fin := fun p hp => by
    have h1 := ok.each p hp
    have h2 := ok.top
    unfold fit Pc.fin at *
    omega
  rcases Nat.eq_zero_or_pos l.length with h0 | h0
  · obtain ⟨p, c, hv⟩ := h.row.slice
    rw [h0] at hv
    obtain rfl : l = [] := List.eq_nil_of_length_eq_zero h0
    have cS : Calls Try.prog 103 #[v, .int .i64 x, .func (.func 104) #[] #[]] w fun e w' => e = .returned (.tuple #[.int .i64 0, .bool false]) ∧ w = w' := by
      subst hv
      clear h c2 h0
      go_enter Try.func103, Try.ntmps103
      go_wp2
      go_loopg [9, 10] 0 (fun gh s9 s10 wr => s9 = .int .i64 0 ∧ s10 = .int .i64 0 ∧ w = wr)
      case atStart => exact ⟨rfl, rfl, rfl⟩
      case round =>
        obtain ⟨rfl, rfl, rfl⟩ := hrel
        go_wp2
        go_ret2
        exact ⟨rfl, rfl⟩
    subst hv
    clear h h0
    go_enter Try.func91, Try.ntmps91
    go_wp2_with (go_at_call 103; (with_reducible refine cS.mono ?_); rintro e w' ⟨rfl, rfl⟩)
    go_ret
    exact ⟨0, rfl, ⟨by simp, fun j p h => by omega, fun j p h hp => by simp at hp⟩, Turn.refl _ _⟩
  · obtain ⟨g, c, rfl, -, -⟩ := h.row.shape h0
    have cS := search_any h.row rfl (fun i j p q hij hi hj => ok.fin hij hi hj) hf x (by omega)
    generalize l.length = n at *
    clear h ok hf h0
    go_enter Try.func91, Try.ntmps91
    go_wp2_with (go_at_call 103; (with_reducible refine cS.mono ?_); rintro e w' ⟨k, rfl, hk, t⟩; have K := Lib.hid (And.intro hk t); clear hk t)
    go_ret
    exact ⟨k, rfl, K.out⟩
end Go.Proofs.Ytdddmjdlikjedaa
