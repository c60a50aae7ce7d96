/-
  What the reference's Find and IDs answer. No conditions but that its arena is one that calls can make.
-/
import Derived.Test.YtfpmbbplgdkogaaRows
import Derived.Test.YtfpmbbplgdkogaaRefRaw
import Derived.Test.YtfpmbbplgdkogaaModelOK
import Derived.Test.YtfpmbbplgdkogaaIterModel
import Derived.Test.YtfpmbbplgdkogaaTake
import Derived.Test.YtfpmbbplgdkogaaFree
import Derived.Deep.LoopGhost
namespace Go.Proofs.Ytfpmbbplgdkogaa
open Go.ChangeShapes Go.WideShapes Go.ChangeAt Go.RowKit

def gensOf (l : List Slot) : List Value := l.map fun s => .int .i64 s.gen
def valsOf (l : List Slot) : List Value := l.map (·.val)
def taksOf (l : List Slot) : List Value := l.map fun s => .bool s.taken

def Ref (w : World) (r : Nat) (F : Nat → Prop) (m : Mod) : Prop :=
  ∃ vg vv vt vf, Raw w r vg vv vt vf (gensOf m.slots) (valsOf m.slots) (taksOf m.slots) m.freed.reverse m.cap ∧ m.OK ∧ F = RFoot r vg vv vt vf

theorem Ref.lt {w : World} {r : Nat} {F : Nat → Prop} {m : Mod} (h : Ref w r F m) {k : Nat} (hk : F k) : k < w.heap.size := by
  obtain ⟨vg, vv, vt, vf, hh, _, rfl⟩ := h
  exact hh.lt hk
theorem Ref.kept {w w' : World} {r : Nat} {F G : Nat → Prop} {m : Mod} (h : Ref w r F m) (ht : Turn G w w') (hF : ∀ k, F k → ¬ G k) : Ref w' r F m := by
  obtain ⟨vg, vv, vt, vf, hh, ok, rfl⟩ := h
  exact ⟨vg, vv, vt, vf, hh.kept ht hF, ok, rfl⟩
theorem own_ref (r : Nat) (F : Nat → Prop) (m : Mod) : Own F (fun w => Ref w r F m) := ⟨fun _ _ _ h t f => h.kept t f, fun _ h _ hk => h.lt hk⟩

/-- One slot, cell by cell. -/
theorem raw_slot {w : World} {r k : Nat} {vg vv vt vf : Value} {l : List Slot} {xs : List Nat} {cap : Nat} {s : Slot} (h : Raw w r vg vv vt vf (gensOf l) (valsOf l) (taksOf l) xs cap) (hs : l[k]? = some s) :
    ∃ g1 c1 g2 c2 g3 c3, vg = .slice (some ⟨g1, 0, none⟩) l.length c1 ∧ vv = .slice (some ⟨g2, 0, none⟩) l.length c2 ∧ vt = .slice (some ⟨g3, 0, none⟩) l.length c3 ∧ k < l.length ∧
      w.cell? ⟨g1, k, none⟩ = some (.int .i64 s.gen) ∧ w.cell? ⟨g2, k, none⟩ = some s.val ∧ w.cell? ⟨g3, k, none⟩ = some (.bool s.taken) ∧
      w.frozen? ⟨g1, k, none⟩ = false ∧ w.frozen? ⟨g2, k, none⟩ = false ∧ w.frozen? ⟨g3, k, none⟩ = false ∧ g1 ≠ g2 ∧ g1 ≠ g3 ∧ g2 ≠ g3 ∧ r ≠ g1 ∧ r ≠ g2 ∧ r ≠ g3 := by
  have hk : k < l.length := (List.getElem?_eq_some_iff.1 hs).1
  have e1 : (gensOf l).length = l.length := by simp [gensOf]
  have e2 : (valsOf l).length = l.length := by simp [valsOf]
  have e3 : (taksOf l).length = l.length := by simp [taksOf]
  have h1 := h.gen
  have h2 := h.val
  have h3 := h.tak
  rw [e1] at h1
  rw [e2] at h2
  rw [e3] at h3
  obtain ⟨g1, c1, rfl, _⟩ := own_shape h1 (by omega)
  obtain ⟨g2, c2, rfl, _⟩ := own_shape h2 (by omega)
  obtain ⟨g3, c3, rfl, _⟩ := own_shape h3 (by omega)
  refine ⟨g1, c1, g2, c2, g3, c3, rfl, rfl, rfl, hk, ?_, ?_, ?_, h1.frozenAt _, h2.frozenAt _, h3.frozenAt _, ?_, ?_, ?_, ?_, ?_, ?_⟩
  · rw [h1.cellAt k (by omega)]; simp [gensOf, hs]
  · rw [h2.cellAt k (by omega)]; simp [valsOf, hs]
  · rw [h3.cellAt k (by omega)]; simp [taksOf, hs]
  · exact fun e => h.d1 g1 rfl (by simp [Value.ownBlock, e])
  · exact fun e => h.gt (k := g1) rfl (by simp [Value.ownBlock, e])
  · exact fun e => h.vt' (k := g2) rfl (by simp [Value.ownBlock, e])
  · exact fun e => h.rg (by simp [Value.ownBlock, e])
  · exact fun e => h.rv (by simp [Value.ownBlock, e])
  · exact fun e => h.rt (by simp [Value.ownBlock, e])

/-- The number that Find tells. -/
def Mod.told (m : Mod) (id : Int) : Int := match m.find id with | some k => (k : Int) | none => -1

theorem find_hit {m : Mod} (ok : m.OK) {k : Nat} {s : Slot} {id : Int} (hs : m.slots[k]? = some s) (ht : s.taken = true) (he : (s.gen : Int) * 65536 + k = id) : m.find id = some k := by
  have hk : k < m.slots.length := (List.getElem?_eq_some_iff.1 hs).1
  have := Mod.find_at hs ht (by have := ok.len; have := ok.cap; omega)
  rw [he] at this
  exact this

set_option maxHeartbeats 1000000 in
theorem ref_find (w : World) (r : Nat) (F : Nat → Prop) (m : Mod) (id : Int) (h : Ref w r F m) :
    Calls Try.prog 16 #[.pointer (some ⟨r, 0, none⟩), .int .i64 id] w fun e w' => e = .returned (.int .i64 (m.told id)) ∧ w' = w := by
  obtain ⟨vg, vv, vt, vf, hh, ok, rfl⟩ := h
  have e1 : (gensOf m.slots).length = m.slots.length := by simp [gensOf]
  have hg := hh.gen
  rw [e1] at hg
  obtain ⟨pg, cg, hvg⟩ := own_slice hg
  have c0 := cell_at hh.head 0
  have c2 := cell_at hh.head 2
  simp at c0 c2
  rw [hvg] at c0
  have HG : Hid (vg = .slice pg m.slots.length cg) := hvg
  have HH : Hid (Raw w r vg vv vt vf (gensOf m.slots) (valsOf m.slots) (taksOf m.slots) m.freed.reverse m.cap) := hh
  have HO : Hid m.OK := ok
  obtain ⟨n, hn⟩ : ∃ n, m.slots.length = n := ⟨_, rfl⟩
  have HN : Hid (m.slots.length = n) := hn
  have hn1 : n ≤ 65536 := by have := ok.len; have := ok.cap; omega
  obtain ⟨z, hz⟩ : ∃ z, m.told id = z := ⟨_, rfl⟩
  have HZ : Hid (m.told id = z) := hz
  rw [hn] at c0
  rw [hz]
  clear hvg hh ok hg hn hz e1
  go_enter Try.func16, Try.ntmps16
  go_wp2
  go_loopg [5] n (fun g c wr => ∃ i : Nat, i ≤ n ∧ g = n - i ∧ c = .int .i64 i ∧ w = wr ∧ Hid (∀ (j : Nat) (s : Slot), j < i → m.slots[j]? = some s → s.taken = true → (s.gen : Int) * 65536 + j ≠ id))
  case atStart => exact ⟨0, by omega, by omega, rfl, rfl, fun j s hj => by omega⟩
  case round =>
    obtain ⟨i, hi, hgk, rfl, rfl, hno⟩ := hrel
    by_cases hlt : i < n
    · obtain ⟨s, hs⟩ : ∃ s, m.slots[i]? = some s := ⟨m.slots[i]'(by have := HN.out; omega), List.getElem?_eq_getElem (by have := HN.out; omega)⟩
      obtain ⟨g1, k1, g2, k2, g3, k3, f1, f2, f3, _, f5, _, f7, _⟩ := raw_slot HH.out hs
      have hvg := HG.out
      rw [f1] at hvg
      simp only [Value.slice.injEq] at hvg
      obtain ⟨rfl, _, rfl⟩ := hvg
      rw [f3, HN.out] at c2
      have hsg := (HO.out.gen i s hs).1
      have HS : Hid (m.slots[i]? = some s) := hs
      cases ht : s.taken with
      | false =>
        rw [ht] at f7
        have HT : Hid (s.taken = false) := ht
        clear hs f1 f2 f3 ht
        go_wp2
        go_roundg (n - (i + 1))
        case measure => omega
        case rel => exact ⟨i + 1, by omega, by omega, by go_num, rfl, fun j u hj hu hut he => by
          by_cases hji : j = i
          · subst hji
            rw [HS.out] at hu
            simp only [Option.some.injEq] at hu
            subst hu
            rw [HT.out] at hut
            simp at hut
          · exact hno.out j u (by omega) hu hut he⟩
      | true =>
        rw [ht] at f7
        have HT : Hid (s.taken = true) := ht
        clear hs f1 f2 f3 ht
        by_cases he : (s.gen : Int) * 65536 + i = id
        · have hzi : z = i := by
            rw [← HZ.out]
            unfold Mod.told
            rw [find_hit HO.out HS.out HT.out he]
          have hb : ((s.gen : Int) * 65536 + i == id) = true := by simp [he]
          subst hzi
          clear he
          go_wp2
          go_ret
          exact ⟨rfl, rfl⟩
        · have hb : ((s.gen : Int) * 65536 + i == id) = false := by simp only [beq_eq_false_iff_ne]; exact he
          have HE : Hid (¬ (s.gen : Int) * 65536 + i = id) := he
          clear he
          go_wp2
          go_roundg (n - (i + 1))
          case measure => omega
          case rel => exact ⟨i + 1, by omega, by omega, by go_num, rfl, fun j u hj hu hut he => by
            by_cases hji : j = i
            · subst hji
              rw [HS.out] at hu
              simp only [Option.some.injEq] at hu
              subst hu
              exact HE.out he
            · exact hno.out j u (by omega) hu hut he⟩
    · obtain rfl : i = n := by omega
      have hzi : z = -1 := by
        rw [← HZ.out]
        unfold Mod.told
        cases hf : m.find id with
        | none => rfl
        | some k =>
          obtain ⟨h0, hk, s, hs, ht, hg⟩ := Mod.find_some hf
          exact absurd (show (s.gen : Int) * 65536 + k = id by omega) (hno.out k s (by have := HN.out; have := (List.getElem?_eq_some_iff.1 hs).1; omega) hs ht)
      subst hzi
      go_wp2
      go_ret
      exact ⟨rfl, rfl⟩

end Go.Proofs.Ytfpmbbplgdkogaa
