/-
  A round of a range over a function, walked by the plain laws.
-/
import Derived.Test.YtehghjakggdnpaaWChunk
namespace Go.Proofs.Ytehghjakggdnpaa
open Go.RowKit Go.Lib

section
variable {P : Program} {ops : Array Oper} {Q : Exit → Act → World → Prop} {a : Act} {w : World} {l n : Nat}

theorem upon_in {o : Oper} {next : Act → World → Prop} {r : Result Next} (h : o.upon P a next Q r) : o.uponIn (Fence.wide.inRound l) n P a next Q r := by
  cases r with
  | ok v w' =>
    cases v with
    | value v => exact h
    | skip => exact h
    | defer d => exact h
    | enter f args => exact ⟨(fun h => by cases h), callsIn_wide.2 h⟩
    | row row args => exact ⟨(fun h => by cases h), fun c cs _ => let ⟨v, w'', r, s⟩ := h c cs; ⟨v, w'', r, stepsIn_wide.2 s⟩⟩
    | _ => exact h.elim
  | halt hh w' =>
    cases hh with
    | panic v => exact h
    | _ => exact h.elim

theorem oper_in {o : Oper} {next : Act → World → Prop} (hnd : ∀ c, o.op ≠ .defer c) (h : o.wp P a w next Q) : o.wpIn (Fence.wide.inRound l) n P a w next Q :=
  ⟨fun _ _ => trivial, by
    show o.uponIn (Fence.wide.inRound l) n P a next Q ((o.semAt (some l) a.eval).run P w)
    rw [Oper.semAt_some _ _ _ hnd]
    exact upon_in h⟩

theorem ops_in (hnd : ∀ (i : Nat) (o : Oper), ops[i]? = some o → ∀ c, o.op ≠ .defer c) (hlo : ∀ a w, ¬ Q .outgrown a w) : ∀ (lst : List Nat) (a : Act) (w : World), wpOps P ops Q lst a w → wpOpsIn (Fence.wide.inRound l) n P ops Q lst a w := by
  intro lst
  induction lst with
  | nil => intro a w h; exact h
  | cons i rest ih =>
    intro a w h
    simp only [wpOps] at h
    simp only [wpOpsIn]
    cases ho : ops[i]? with
    | none => simp only [ho] at h; exact ih a w h
    | some o =>
      simp only [ho] at h
      by_cases hw : Region.wanted o (yielded ops a.tmps) = true
      · simp only [hw, if_true] at h ⊢
        rcases h with h | ⟨_, a', w', h⟩
        · exact Oper.wpIn_mono (fun a w h => ih a w h) (oper_in (hnd i o ho) h)
        · exact absurd h (hlo a' w')
      · simp only [hw, if_false, Bool.false_eq_true] at h ⊢
        exact ⟨fun _ _ => trivial, ih _ _ h⟩

theorem region_round {id : Nat} {lst : List Oper} (hnd : lst.all (fun o => match o.op with | .defer _ => false | _ => true) = true) (hlo : ∀ a w, ¬ Q .outgrown a w) (h : wpList P lst.toArray Q lst a w) :
    (Code.region id lst.toArray false).wpIn (Fence.wide.inRound l) n P Q a w := by
  refine wpIn_region (ops_in ?_ hlo _ _ _ ?_)
  · intro i o ho c hc
    have h1 : o ∈ lst := by
      have := Array.mem_of_getElem? ho
      simpa using this
    have h2 := List.all_eq_true.1 hnd o h1
    rw [hc] at h2
    cases h2
  · rw [List.range_eq_range', ← Array.length_toList, wpOps_eq_wpList lst 0 (by simp)]
    exact h
theorem region_round_draw {id : Nat} {lst : List Oper} (hnd : lst.all (fun o => match o.op with | .defer _ => false | _ => true) = true) (hlo : ∀ a w, ¬ Q .outgrown a w) (hm : P.follows .mixedOrders = true)
    (h : wpAny P .any lst.toArray Q lst.toArray.size (Array.replicate lst.toArray.size false) a w.drew) : (Code.region id lst.toArray true).wpIn (Fence.wide.inRound l) n P Q a w := by
  refine wpIn_region_draw fun t => ops_in ?_ hlo _ _ _ ?_
  · intro i o ho c hc
    have h1 : o ∈ lst := by
      have := Array.mem_of_getElem? ho
      simpa using this
    have h2 := List.all_eq_true.1 hnd o h1
    rw [hc] at h2
    cases h2
  · simp only [Region.schedule, hm, Bool.true_or, if_true]
    exact wpAny_sound _ t _ a _ h
end
end Go.Proofs.Ytehghjakggdnpaa
