/-
  SameBytes and SameLists of any two: they answer whether the two are equal, and change nothing.
-/
import Derived.Test.YtehghjakggdnpaaWSameL
namespace Go.Proofs.Ytehghjakggdnpaa
open Go.RowKit Go.Lib

/-- a bool is answered, nothing is turned -/
def BoolQuiet (b : Bool) (w : World) (e : Ending) (w' : World) : Prop := e = .returned (.bool b) ∧ ∃ d, w' = w.drewN d
/-- so far they are equal -/
def EqRel {α : Type} (l l' : List α) (w : World) (n : Nat) (i : Value) (wr : World) : Prop := ∃ k d : Nat, k ≤ n ∧ i = .int .i64 k ∧ wr = w.drewN d ∧ l.take k = l'.take k
theorem take_more {α : Type} {l l' : List α} {k : Nat} (h : k < l.length) (h' : k < l'.length) (ht : l.take k = l'.take k) (e : l[k]'h = l'[k]'h') : l.take (k + 1) = l'.take (k + 1) := by
  rw [List.take_succ_eq_append_getElem h, List.take_succ_eq_append_getElem h', ht, e]
theorem ne_at {α : Type} {l l' : List α} {k : Nat} (h : k < l.length) (h' : k < l'.length) (e : l[k]'h ≠ l'[k]'h') : l ≠ l' := fun hl => e (by subst hl; rfl)

set_option maxRecDepth 100000 in
set_option maxHeartbeats 800000 in
theorem sameBytes_dec (A A' : Option Addr) (n n' c c' : Nat) (l l' : List Int) (w : World) (B B' : Nat) (hr : Rd w B A n (cells l)) (hr' : Rd w B' A' n' (cells l')) (hn : n ≤ 140000000000000) :
    Calls Try.prog 17 #[.slice A n c, .slice A' n' c'] w (BoolQuiet (decide (l = l')) w) := by
  have hlen : l.length = n := by have := hr.len; rwa [cells_len] at this
  have hlen' : l'.length = n' := by have := hr'.len; rwa [cells_len] at this
  subst hlen
  by_cases hnn : l.length = n'
  · subst hnn
    go_enter Try.func17, Try.ntmps17
    go_wp2
    go_loopw [5] (fun i wr => EqRel l l' w l.length i wr) (fun i _ => l.length - (intOf i).toNat)
    case atStart => exact ⟨0, 0, by omega, rfl, rfl, rfl⟩
    case round =>
      obtain ⟨k, d, hk, rfl, hw, hpre⟩ := hrel
      have HP := Lib.hid hpre
      clear hpre
      have h1 : Rd wr B A l.length (cells l) := by rw [hw]; exact hr.drewN d
      have h2 : Rd wr B' A' l.length (cells l') := by rw [hw]; exact hr'.drewN d
      have HW := Lib.hid hw
      have HL := Lib.hid hlen'
      clear hw hr hr' hlen'
      by_cases hlt : k < l.length
      · have hlt' : k < l'.length := by have := HL.out; omega
        obtain ⟨ad, u, rfl, _, hu, hc⟩ := h1.at_ hlt
        obtain ⟨ad', u', rfl, _, hu', hc'⟩ := h2.at_ hlt
        rw [dkcells_at hlt] at hu
        rw [dkcells_at hlt'] at hu'
        obtain rfl := Option.some.inj hu
        obtain rfl := Option.some.inj hu'
        obtain ⟨x, hx⟩ : ∃ x, x = l[k]'hlt := ⟨_, rfl⟩
        obtain ⟨y, hy⟩ : ∃ y, y = l'[k]'hlt' := ⟨_, rfl⟩
        rw [← hx] at hc
        rw [← hy] at hc'
        by_cases hxy : x = y
        · have HM := Lib.hid (take_more hlt hlt' HP.out (by rw [← hx, ← hy, hxy]))
          clear hu hu' h1 h2 hx hy hlt'
          subst hxy
          go_wp2
          go_quiet (fail)
          go_wp2
          go_roundw
          case rel => exact ⟨k + 1, _, by omega, by go_num, by rw [HW.out]; exact World.drewN_drewN _ _ _, HM.out⟩
          case measure => simp [intOf]; omega
        · have HM := Lib.hid (ne_at hlt hlt' (by rw [← hx, ← hy]; exact hxy))
          clear hu hu' h1 h2 hx hy hlt'
          have e1 : (x != y) = true := by simp [hxy]
          have e2 : (x == y) = false := by simp [hxy]
          have e3 : decide (x = y) = false := by simp [hxy]
          go_wp2
          go_quiet (fail)
          go_wp2
          go_ret
          exact ⟨by rw [decide_eq_false HM.out]; rfl, _, by rw [HW.out]; exact World.drewN_drewN _ _ _⟩
      · have HE := Lib.hid (show l = l' from by
          have h3 := HP.out
          rwa [List.take_of_length_le (by omega), List.take_of_length_le (by have := HL.out; omega)] at h3)
        go_wp2
        go_ret
        exact ⟨by rw [decide_eq_true HE.out]; rfl, d, HW.out⟩
  · have hi : ¬ ((l.length : Int) = (n' : Int)) := by omega
    have e1 : ((l.length : Int) != (n' : Int)) = true := by simp; omega
    have e2 : ((l.length : Int) == (n' : Int)) = false := by simp; omega
    have HE := Lib.hid (show l ≠ l' from fun e => by subst e; omega)
    clear hlen' hr hr'
    go_enter Try.func17, Try.ntmps17
    go_wp2
    go_ret
    exact ⟨by rw [decide_eq_false HE.out]; rfl, 0, rfl⟩

set_option maxRecDepth 100000 in
set_option maxHeartbeats 1600000 in
theorem sameLists_dec (A A' : Option Addr) (n n' c c' : Nat) (xs ys : List Sl) (w : World) (B B' D D' : Nat) (hn : n = xs.length) (hn' : n' = ys.length) (hr : Rd w B A n (vals xs)) (hr' : Rd w B' A' n' (vals ys)) (hs : SlsIn w D xs) (hs' : SlsIn w D' ys) (hb : ∀ x ∈ xs, x.n ≤ 140000000000000) (hb2 : n ≤ 140000000000000) :
    Calls Try.prog 23 #[.slice A n c, .slice A' n' c'] w (BoolQuiet (decide (lists xs = lists ys)) w) := by
  subst hn
  subst hn'
  by_cases hnn : xs.length = ys.length
  · have H := Lib.hid (And.intro hr (And.intro hr' (And.intro hs (And.intro hs' (And.intro hb hnn)))))
    clear hr hr' hs hs' hb
    rw [← hnn]
    clear hnn
    go_enter Try.func23, Try.ntmps23
    go_wp2_with fail
    go_loopw [5] (fun i wr => EqRel (lists xs) (lists ys) w xs.length i wr) (fun i _ => xs.length - (intOf i).toNat)
    case atStart => exact ⟨0, 0, by omega, rfl, rfl, rfl⟩
    case round =>
      obtain ⟨k, d, hk, rfl, hw, hpre⟩ := hrel
      have HP := Lib.hid hpre
      clear hpre
      have HW := Lib.hid hw
      by_cases hlt : k < xs.length
      · have hlt' : k < ys.length := by have := H.out.2.2.2.2.2; omega
        have h1 : Rd wr B A xs.length (vals xs) := by rw [hw]; exact H.out.1.drewN d
        have h2 : Rd wr B' A' xs.length (vals ys) := by rw [hw, H.out.2.2.2.2.2]; exact H.out.2.1.drewN d
        obtain ⟨ad, u, rfl, _, hu, hc⟩ := h1.at_ hlt
        obtain ⟨ad', u', rfl, _, hu', hc'⟩ := h2.at_ hlt
        obtain ⟨x, hx⟩ : ∃ x, x = xs[k]'hlt := ⟨_, rfl⟩
        obtain ⟨y, hy⟩ : ∃ y, y = ys[k]'hlt' := ⟨_, rfl⟩
        obtain rfl := vals_at hlt hu
        obtain rfl := vals_at hlt' hu'
        rw [← hx] at hc
        rw [← hy] at hc'
        have hxm : x ∈ xs := by rw [hx]; exact List.getElem_mem _
        have hym : y ∈ ys := by rw [hy]; exact List.getElem_mem _
        have hxr := (H.out.2.2.1 x hxm).1
        have hyr := (H.out.2.2.2.1 y hym).1
        have hxn := H.out.2.2.2.2.1 x hxm
        obtain ⟨b, hbb⟩ : ∃ b, b = decide (x.l = y.l) := ⟨_, rfl⟩
        have HK := Lib.hid (show ∀ k0, Calls Try.prog 17 #[.slice x.A x.n x.c, .slice y.A y.n y.c] (wr.drewN k0) (fun e w' => e = .returned (.bool b) ∧ ∃ m, w' = wr.drewN m) from fun k0 => by
          rw [hw, hbb]
          refine (sameBytes_dec x.A y.A x.n y.n x.c y.c x.l y.l _ D D' ((hxr.drewN d).drewN k0) ((hyr.drewN d).drewN k0) hxn).mono ?_
          rintro e w' ⟨rfl, m, rfl⟩
          exact ⟨rfl, _, World.drewN_drewN _ _ _⟩)
        have hk0 : (0 : Int) ≤ (k : Int) := Int.natCast_nonneg _
        have hk1 : (k : Int) < (xs.length : Int) := by omega
        have l1 : k < (lists xs).length := by simpa [lists] using hlt
        have l2 : k < (lists ys).length := by simpa [lists] using hlt'
        have g1 : (lists xs)[k]'l1 = x.l := by rw [hx]; simp [lists]
        have g2 : (lists ys)[k]'l2 = y.l := by rw [hy]; simp [lists]
        cases b with
        | true =>
          have HM := Lib.hid (take_more l1 l2 HP.out (by rw [g1, g2]; exact of_decide_eq_true hbb.symm))
          clear hw hu hu' h1 h2 hx hy hxm hym hxr hyr hxn hbb l1 l2 g1 g2
          go_wp2_with fail
          go_quiet (first | (go_at_call 17; exact HK.out _))
          go_wp2
          go_roundw
          case rel => exact ⟨k + 1, _, by omega, by go_num, by rw [HW.out]; exact World.drewN_drewN _ _ _, HM.out⟩
          case measure => simp [intOf]; omega
        | false =>
          have HM := Lib.hid (ne_at l1 l2 (by rw [g1, g2]; exact of_decide_eq_false hbb.symm))
          clear hw hu hu' h1 h2 hx hy hxm hym hxr hyr hxn hbb l1 l2 g1 g2
          go_wp2_with fail
          go_quiet (first | (go_at_call 17; exact HK.out _))
          go_wp2
          go_ret
          exact ⟨by rw [decide_eq_false HM.out]; rfl, _, by rw [HW.out]; exact World.drewN_drewN _ _ _⟩
      · have hkn : ¬ ((k : Int) < (xs.length : Int)) := by omega
        have HE := Lib.hid (show lists xs = lists ys from by
          have h3 := HP.out
          rwa [List.take_of_length_le (by simp [lists]; omega), List.take_of_length_le (by have := H.out.2.2.2.2.2; simp [lists]; omega)] at h3)
        clear hw
        go_wp2
        go_ret
        exact ⟨by rw [decide_eq_true HE.out]; rfl, d, HW.out⟩
  · have hi : ¬ ((xs.length : Int) = (ys.length : Int)) := by omega
    have e1 : ((xs.length : Int) != (ys.length : Int)) = true := by simp; omega
    have e2 : ((xs.length : Int) == (ys.length : Int)) = false := by simp; omega
    have HE := Lib.hid (show lists xs ≠ lists ys from fun e => hnn (by have h3 := congrArg List.length e; simpa [lists] using h3))
    clear hr hr' hs hs' hb
    go_enter Try.func23, Try.ntmps23
    go_wp2
    go_ret
    exact ⟨by rw [decide_eq_false HE.out]; rfl, 0, rfl⟩
end Go.Proofs.Ytehghjakggdnpaa
