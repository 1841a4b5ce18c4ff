/-
  Arguments opened: a slice of bytes, a slice of calls, as the cells that they hold; great; SameBytes and CopyBytes.
-/
import Derived.Test.YtdnegfjddpdmhaaDoorFnF
import Derived.ProofKit
import Derived.OpenShut
import Derived.ChangeOld
import Derived.Deep.Slices
import Derived.SizedLaws
import Derived.Handed
import Derived.Shelf.Vars
import Derived.Deep.QuietTactic
import Derived.BigQuiet
namespace Go.Proofs.YtdnegfjddpdmhaaDoor
open Go.ChangeShapes Go.WideShapes Go.ChangeAt Go.RowKit

theorem own : ownKnob Tryd.prog.godebug = none := by kernel_rfl
theorem laidOut : laidOutB Tryd.prog = true := by kernel_rfl

theorem bytes_wf {l : List Int} (h : ∀ z ∈ l, (Lit.int .u8 z).wf = true) : IsBytes l := fun x hx => by
  have := bounds_u8 (h x hx)
  omega

section
variable {P : Program} {H : Type} {enc : TypeId × Value → H} {W : World} {B : Nat}
theorem rd_of_ints {t e : TypeId} {k : IntKind} {a : Option Addr} {len cap : Nat} {d : DataW H} {p : List MemPlace} (ht : P.underlying t = some (.slice e)) (he : P.underlying e = some (.int k)) (hc : P.cellsOf e = 1)
    (h : DataW.Trod enc P W B (fun _ => true) true t (.slice a len cap) d p) :
    ∃ zs : List Int, Rd W W.heap.size a len (zs.map (Value.int k)) ∧ (∀ z ∈ zs, (Lit.int k z).wf = true) ∧ zs.length = len ∧ len ≤ cap ∧ cap ≤ maxLen := by
  obtain ⟨fuel, hf⟩ := h
  rcases open_ints ht he hc hf with ⟨hcs, _⟩ | ⟨x, l, c, zs, hcs, _, hl, hm, hz, _, hcell, hwz⟩
  · simp [Value.cells] at hcs
    obtain ⟨rfl, rfl, rfl⟩ := hcs
    exact ⟨[], Rd.empty, fun z hz => by simp at hz, rfl, Nat.le_refl _, by simp [maxLen]⟩
  · simp [Value.cells] at hcs
    obtain ⟨rfl, rfl, rfl⟩ := hcs
    have hzl : zs.length = cap := by simpa using hz
    refine ⟨zs.take len, ⟨by simp; omega, fun h0 => ⟨x, rfl, ?_, ?_⟩⟩, fun z hz => hwz z (List.mem_of_mem_take hz), by simp; omega, hl, hm⟩
    · have h1 := World.block_lt_of_cell? _ _ (hcell 0 (by omega))
      rwa [addr_block] at h1
    · intro j u hu
      have hj : j < len := by
        have := (List.getElem?_eq_some_iff.1 hu).1
        simp at this
        omega
      have hjz : j < zs.length := by omega
      rw [hcell j hjz]
      simp only [List.getElem?_map, List.getElem?_take, if_pos hj, List.getElem?_eq_getElem hjz] at hu
      simpa [List.getD, hjz] using hu

theorem bytes_of_trod {fuel : Nat} {t e : TypeId} {cs : List Value} {x : DataW H × List MemPlace} (ht : P.underlying t = some (.slice e)) (he : P.underlying e = some (.int .u8)) (hc : P.cellsOf e = 1)
    (h : DataW.trod enc P W B (fun _ => true) true fuel t cs = some x) : ∃ A n c zs, cs = [.slice A n c] ∧ Rd W W.heap.size A n (cells zs) ∧ IsBytes zs ∧ n ≤ c ∧ c ≤ maxLen := by
  rcases open_ints ht he hc h with ⟨rfl, _⟩ | ⟨a, l, c, zs, rfl, _, hlc, _, hzs, hx, _⟩
  · exact ⟨none, 0, 0, [], rfl, Rd.empty, .nil, Nat.le_refl _, by simp [maxLen]⟩
  · obtain ⟨zs', h1, h2, _, h4, h5⟩ := rd_of_ints (a := some a) (len := l) (cap := c) (d := x.1) (p := x.2) ht he hc ⟨fuel, by simpa [Value.cells] using h⟩
    exact ⟨some a, l, c, zs', rfl, h1, bytes_wf h2, h4, h5⟩

end

theorem addr_field (a : Addr) {j : Nat} (hj : 0 < j) : (⟨a.block, a.off + j, none⟩ : Addr) = a.add j := by unfold Addr.add; rw [if_neg (by omega)]

/-- a bool is answered, nothing is turned -/
def BoolQuiet (b : Bool) (w : World) (e : Ending) (w' : World) : Prop := e = .returned (.bool b) ∧ ∃ d, w' = w.drewN d
/-- so far they are equal -/
def EqRel {α : Type} (l l' : List α) (w : World) (n : Nat) (i : Value) (wr : World) : Prop := ∃ k d : Nat, k ≤ n ∧ i = .int .i64 k ∧ wr = w.drewN d ∧ l.take k = l'.take k
theorem take_more {α : Type} {l l' : List α} {k : Nat} (h : k < l.length) (h' : k < l'.length) (ht : l.take k = l'.take k) (e : l[k]'h = l'[k]'h') : l.take (k + 1) = l'.take (k + 1) := by
  rw [List.take_succ_eq_append_getElem h, List.take_succ_eq_append_getElem h', ht, e]
theorem ne_at {α : Type} {l l' : List α} {k : Nat} (h : k < l.length) (h' : k < l'.length) (e : l[k]'h ≠ l'[k]'h') : l ≠ l' := fun hl => e (by subst hl; rfl)

set_option maxRecDepth 100000 in
set_option maxHeartbeats 800000 in
theorem sameBytes_dec (A A' : Option Addr) (n n' c c' : Nat) (l l' : List Int) (w : World) (B B' : Nat) (hr : Rd w B A n (cells l)) (hr' : Rd w B' A' n' (cells l')) (hn : n ≤ 140000000000000) :
    Calls Tryd.prog 27 #[.slice A n c, .slice A' n' c'] w (BoolQuiet (decide (l = l')) w) := by
  have hlen : l.length = n := by have := hr.len; rwa [cells_len] at this
  have hlen' : l'.length = n' := by have := hr'.len; rwa [cells_len] at this
  subst hlen
  by_cases hnn : l.length = n'
  · subst hnn
    go_enter Tryd.func27, Tryd.ntmps27
    go_wp2
    go_loopw [5] (fun i wr => EqRel l l' w l.length i wr) (fun i _ => l.length - (intOf i).toNat)
    case atStart => exact ⟨0, 0, by omega, rfl, rfl, rfl⟩
    case round =>
      obtain ⟨k, d, hk, rfl, hw, hpre⟩ := hrel
      have HP := Lib.hid hpre
      clear hpre
      have h1 : Rd wr B A l.length (cells l) := by rw [hw]; exact hr.drewN d
      have h2 : Rd wr B' A' l.length (cells l') := by rw [hw]; exact hr'.drewN d
      have HW := Lib.hid hw
      have HL := Lib.hid hlen'
      clear hw hr hr' hlen'
      by_cases hlt : k < l.length
      · have hlt' : k < l'.length := by have := HL.out; omega
        obtain ⟨ad, u, rfl, _, hu, hc⟩ := h1.at_ hlt
        obtain ⟨ad', u', rfl, _, hu', hc'⟩ := h2.at_ hlt
        rw [cells_at hlt] at hu
        rw [cells_at hlt'] at hu'
        obtain rfl := Option.some.inj hu
        obtain rfl := Option.some.inj hu'
        obtain ⟨x, hx⟩ : ∃ x, x = l[k]'hlt := ⟨_, rfl⟩
        obtain ⟨y, hy⟩ : ∃ y, y = l'[k]'hlt' := ⟨_, rfl⟩
        rw [← hx] at hc
        rw [← hy] at hc'
        by_cases hxy : x = y
        · have HM := Lib.hid (take_more hlt hlt' HP.out (by rw [← hx, ← hy, hxy]))
          clear hu hu' h1 h2 hx hy hlt'
          subst hxy
          go_wp2
          go_quiet (fail)
          go_wp2
          go_roundw
          case rel => exact ⟨k + 1, _, by omega, by go_num, by rw [HW.out]; exact World.drewN_drewN _ _ _, HM.out⟩
          case measure => simp [intOf]; omega
        · have HM := Lib.hid (ne_at hlt hlt' (by rw [← hx, ← hy]; exact hxy))
          clear hu hu' h1 h2 hx hy hlt'
          have e1 : (x != y) = true := by simp [hxy]
          have e2 : (x == y) = false := by simp [hxy]
          have e3 : decide (x = y) = false := by simp [hxy]
          go_wp2
          go_quiet (fail)
          go_wp2
          go_ret
          exact ⟨by rw [decide_eq_false HM.out]; rfl, _, by rw [HW.out]; exact World.drewN_drewN _ _ _⟩
      · have HE := Lib.hid (show l = l' from by
          have h3 := HP.out
          rwa [List.take_of_length_le (by omega), List.take_of_length_le (by have := HL.out; omega)] at h3)
        go_wp2
        go_ret
        exact ⟨by rw [decide_eq_true HE.out]; rfl, d, HW.out⟩
  · have hi : ¬ ((l.length : Int) = (n' : Int)) := by omega
    have e1 : ((l.length : Int) != (n' : Int)) = true := by simp; omega
    have e2 : ((l.length : Int) == (n' : Int)) = false := by simp; omega
    have HE := Lib.hid (show l ≠ l' from fun e => by subst e; omega)
    clear hlen' hr hr'
    go_enter Tryd.func27, Tryd.ntmps27
    go_wp2
    go_ret
    exact ⟨by rw [decide_eq_false HE.out]; rfl, 0, rfl⟩

theorem drewN_below {w w' : World} {d : Nat} (h : w' = w.drewN d) : Below w.heap.size w w' := by
  subst h
  exact ⟨rfl, rfl, rfl, Nat.le_refl _, fun _ _ => rfl⟩
theorem same_any (A A' : Option Addr) (n n' c c' : Nat) (l l' : List Int) (w : World) (hr : Rd w w.heap.size A n (cells l)) (hr' : Rd w w.heap.size A' n' (cells l')) (hn : n ≤ 140000000000000) :
    Calls Tryd.prog 27 #[.slice A n c, .slice A' n' c'] w fun e w' => e = .returned (.bool (decide (l = l'))) ∧ Below w.heap.size w w' :=
  (sameBytes_dec A A' n n' c c' l l' w _ _ hr hr' hn).mono fun e w' h => ⟨h.1, by obtain ⟨d, hd⟩ := h.2; exact drewN_below hd⟩

set_option maxRecDepth 100000 in
set_option maxHeartbeats 1600000 in
theorem copyBytes_any (w : World) (A : Option Addr) (m c : Nat) (l : List Int) (hl : l.length = m) (hm : m ≤ 1000000) (hr : Rd w w.heap.size A m (cells l)) :
    Calls Tryd.prog 32 #[.slice A m c] w (OwnRet w.heap.size l w) := by
  obtain ⟨i0, hi, hz0, hz1, hz2⟩ := info_parts Tryd.dkinfo5
  have hlw := own_lit0 w
  have hb := (Below.refl w.heap.size w).alloc (Nat.le_refl _) (.cells #[] 5)
  obtain ⟨w1, hw1⟩ : ∃ w1, w1 = w.alloc (.cells #[] 5) := ⟨_, rfl⟩
  rw [← hw1] at hb hlw
  have HW := Lib.hid hw1
  have H := Lib.hid (And.intro hlw (And.intro hb (hr.below hb (Nat.le_refl _))))
  clear hw1 hb hlw hr
  go_enter Tryd.func32, Tryd.ntmps32
  go_wp2_with (at_builtin; rw [← HW.out]; refine wpList_append_rd _ rfl (.tmp 5) (.tmp 6) 33 rfl w.heap.size 5 i0 (.int .u8 0) 1 Tryd.underlying33 hi hz0 hz1 hz2 rfl _ _ _ rfl H.out.1 w.heap.size _ m c _ rfl H.out.2.2 (cells_one _) ?c3 ?c4 ?c5 ?_)
  case c3 => simp [maxLen]; omega
  case c4 => simp; omega
  case c5 => exact H.out.2.1.size
  intro v' w2 hown hgrow
  have HF := Lib.hid (show OwnRet w.heap.size l w (.returned v') w2 from ⟨v', rfl, by rw [hl]; simpa using hown, H.out.2.1.trans (below_own H.out.1 hgrow H.out.2.1.size)⟩)
  clear hown hgrow
  go_wp2
  go_ret
  exact HF.out
end Go.Proofs.YtdnegfjddpdmhaaDoor
