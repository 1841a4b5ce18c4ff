/-
  The contract of SameLists: rows of the same bytes.
-/
import Derived.Test.YtehghjakggdnpaaWRecs
namespace Go.Proofs.Ytehghjakggdnpaa
open Go.RowKit Go.Lib

theorem vals_at {xs : List Sl} {k : Nat} {v : Value} (h : k < xs.length) (hv : (vals xs)[k]? = some v) : v = .slice (xs[k]'h).A (xs[k]'h).n (xs[k]'h).c := by
  simp only [vals, List.getElem?_map, List.getElem?_eq_getElem h, Option.map_some, Option.some.injEq] at hv
  rw [← hv]; rfl
theorem lists_at {xs ys : List Sl} (hl : lists xs = lists ys) {k : Nat} (h : k < xs.length) (h' : k < ys.length) : (xs[k]'h).l = (ys[k]'h').l := by
  have h1 : (lists xs)[k]? = (lists ys)[k]? := by rw [hl]
  simpa [lists, List.getElem?_map, List.getElem?_eq_getElem h, List.getElem?_eq_getElem h'] using h1

set_option maxRecDepth 100000 in
set_option maxHeartbeats 1600000 in
theorem sameLists_yes (A A' : Option Addr) (n c c' : Nat) (xs ys : List Sl) (w : World) (B B' D D' : Nat) (hl : lists xs = lists ys) (hn : n = xs.length) (hr : Rd w B A n (vals xs)) (hr' : Rd w B' A' n (vals ys)) (hs : SlsIn w D xs) (hs' : SlsIn w D' ys) (hb : ∀ x ∈ xs, x.n ≤ 140000000000000) (hb2 : n ≤ 140000000000000) :
    Calls Try.prog 23 #[.slice A n c, .slice A' n c'] w (DkYesQuiet w) := by
  subst hn
  have hyl : ys.length = xs.length := by have := congrArg List.length hl; simp [lists] at this; omega
  have H := Lib.hid (And.intro hr (And.intro hr' (And.intro hs (And.intro hs' (And.intro hb (And.intro hl hyl))))))
  clear hr hr' hs hs' hb hl hyl
  go_enter Try.func23, Try.ntmps23
  go_wp2_with fail
  go_loopw [5] (fun i wr => DkSameRel w xs.length i wr) (fun i _ => xs.length - (intOf i).toNat)
  case atStart => exact ⟨0, 0, by omega, rfl, rfl⟩
  case round =>
    obtain ⟨k, d, hk, rfl, hw⟩ := hrel
    have HW := Lib.hid hw
    by_cases hlt : k < xs.length
    · have hlt' : k < ys.length := by have := H.out.2.2.2.2.2.2; omega
      have h1 : Rd wr B A xs.length (vals xs) := by rw [hw]; exact H.out.1.drewN d
      have h2 : Rd wr B' A' xs.length (vals ys) := by rw [hw]; exact H.out.2.1.drewN d
      obtain ⟨ad, u, rfl, _, hu, hc⟩ := h1.at_ hlt
      obtain ⟨ad', u', rfl, _, hu', hc'⟩ := h2.at_ hlt
      obtain ⟨x, hx⟩ : ∃ x, x = xs[k]'hlt := ⟨_, rfl⟩
      obtain ⟨y, hy⟩ : ∃ y, y = ys[k]'hlt' := ⟨_, rfl⟩
      obtain rfl := vals_at hlt hu
      obtain rfl := vals_at hlt' hu'
      rw [← hx] at hc
      rw [← hy] at hc'
      have hxy : x.l = y.l := by rw [hx, hy]; exact lists_at H.out.2.2.2.2.2.1 hlt hlt'
      have hxm : x ∈ xs := by rw [hx]; exact List.getElem_mem _
      have hym : y ∈ ys := by rw [hy]; exact List.getElem_mem _
      have hxr := (H.out.2.2.1 x hxm).1
      have hyr := (H.out.2.2.2.1 y hym).1
      have hnn : y.n = x.n := by
        have e1 := hxr.len
        have e2 := hyr.len
        rw [cells_len] at e1 e2
        rw [← e1, ← e2, hxy]
      rw [hnn] at hyr hc'
      rw [← hxy] at hyr
      have hxn := H.out.2.2.2.2.1 x hxm
      have HK := Lib.hid (show ∀ k0, Calls Try.prog 17 #[.slice x.A x.n x.c, .slice y.A x.n y.c] (wr.drewN k0) (fun e w' => e = .returned (.bool true) ∧ ∃ m, w' = wr.drewN m) from fun k0 => by
        rw [hw]
        refine (dksameBytes_yes x.A y.A x.n x.c y.c x.l _ D D' ((hxr.drewN d).drewN k0) ((hyr.drewN d).drewN k0) hxn).mono ?_
        rintro e w' ⟨rfl, m, rfl⟩
        exact ⟨rfl, _, World.drewN_drewN _ _ _⟩)
      have hk0 : (0 : Int) ≤ (k : Int) := Int.natCast_nonneg _
      have hk1 : (k : Int) < (xs.length : Int) := by omega
      clear hw hu hu' h1 h2 hx hy hxy hxm hym hxr hyr hnn hxn
      go_wp2
      go_quiet (first | (go_at_call 17; exact HK.out _))
      go_wp2
      go_roundw
      case rel => exact ⟨k + 1, _, by omega, by go_num, by rw [HW.out]; exact World.drewN_drewN _ _ _⟩
      case measure => simp [intOf]; omega
    · have hkn : ¬ ((k : Int) < (xs.length : Int)) := by omega
      clear hw
      go_wp2
      go_ret
      exact ⟨rfl, d, HW.out⟩
end Go.Proofs.Ytehghjakggdnpaa
