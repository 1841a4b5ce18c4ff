/-
  What the laws want of the program's modes; alive.
-/
import Derived.Test.YtbkffcopahiilaaMoU
namespace Go.Proofs.Ytbkffcopahiilaa
open Go.RowKit Go.Lib

def NumI (x : Int) : Prop := -9223372036854775808 ≤ x ∧ x ≤ 9223372036854775807
/-- how long a text may be that is handed in: 2^47 -/
def roomLen : Nat := 140737488355328
def Th.In (x : Th) : Prop := NumI x.k ∧ x.t.size ≤ roomLen ∧ x.y.size ≤ roomLen
/-- the contract of the program's modes -/
structure Impl : Prop where
  right : ∀ (a : Int) (w : World), NumI a → Says Try.prog 9 #[.int .i64 a] w (.bool (rgB a))
  conf : ∀ (a b : Int) (w : World), NumI a → NumI b → Says Try.prog 10 #[.int .i64 a, .int .i64 b] w (.bool (cfB a b))
  cov : ∀ (a b : Int) (w : World), NumI a → NumI b → Says Try.prog 12 #[.int .i64 a, .int .i64 b] w (.bool (cvB a b))
  join : ∀ (a b : Int) (w : World), NumI a → NumI b → Says Try.prog 14 #[.int .i64 a, .int .i64 b] w (.int .i64 (jnI a b))
  fits : ∀ (x : Th) (w : World), x.In → Says Try.prog 18 #[thV x] w (.bool (fitsB x))
  above : ∀ (x : Th) (w : World), x.In → Calls Try.prog 16 #[thV x] w (AbRet w (abT x))
theorem numI (x : Int) (h : -9223372036854775808 ≤ x ∧ x ≤ 9223372036854775807) : NumI x := h
def rowTh : Th := ⟨4, ⟨#[116]⟩, ⟨#[107]⟩⟩
theorem ab_row : abT rowTh = [dbT, ⟨3, ⟨#[116]⟩, eS⟩] := by
  have hf : fitsB rowTh = true := decide_eq_true (.inr (.inr rfl))
  unfold abT
  rw [hf]
  rfl
theorem rg8 : rgB 8 = true := by decide
theorem jn32 : jnI 3 2 = 5 := by decide +kernel
theorem cf32 : cfB 3 2 = true := by decide +kernel
theorem cf12 : cfB 1 2 = false := by decide +kernel
structure AlS (w0 w : World) (ad : Addr) (s : ByteArray) : Prop where
  low : Below w0.heap.size w0 w
  lt : ad.block < w.heap.size
  cell : w.cell? ⟨ad.block, ad.off + 3 + 1, none⟩ = some (.string s)
theorem AlS.below {w0 w w' : World} {ad : Addr} {s : ByteArray} (h : AlS w0 w ad s) (hb : Below w.heap.size w w') : AlS w0 w' ad s :=
  ⟨h.low.trans (hb.mono h.low.size), Nat.lt_of_lt_of_le h.lt hb.size, (hb.cell (p := ⟨ad.block, ad.off + 3 + 1, none⟩) h.lt).trans h.cell⟩
set_option maxRecDepth 100000 in
set_option maxHeartbeats 6400000 in
theorem alive10_any (I : Impl) (w : World) : Says Try.prog 8 #[] w (.bool true) := by
  have hab := I.above rowTh w ⟨numI _ (by decide), by decide, by decide⟩
  rw [ab_row] at hab
  have HAB := Lib.hid hab
  have HI := Lib.hid I
  have HE := Lib.hid (And.intro rg8 (And.intro jn32 (And.intro cf32 cf12)))
  clear hab
  unfold rowTh thV at HAB
  go_enter Try.func8, Try.ntmps8
  go_wp2_with fail
  refine HAB.out.mono ?_
  rintro e w1 ⟨A, n, c, rfl, hn, hnc, hrow, hb⟩
  obtain rfl : n = 2 := hn
  obtain ⟨ad, rfl, hlt, _, a1, _⟩ := th_at hrow (i := 1) (by decide)
  simp only [Nat.one_mul, List.getElem_cons_succ, List.getElem_cons_zero] at a1
  have HS := Lib.hid (AlS.mk hb hlt a1)
  clear a1 hb hrow hnc hlt I
  go_wp2_with (first
    | (go_at_call 14; refine (HI.out.join _ _ _ (numI _ (by decide)) (numI _ (by decide))).mono ?_; (first | rw [HE.out.2.1]); rintro e wx ⟨rfl, hb⟩; have hs := HS.out.below hb; have c1 := hs.cell; clear HS hb; have HS := Lib.hid hs; clear hs)
    | (go_at_call 10; refine (HI.out.conf _ _ _ (numI _ (by decide)) (numI _ (by decide))).mono ?_; (first | rw [HE.out.2.2.1] | rw [HE.out.2.2.2]); rintro e wx ⟨rfl, hb⟩; have hs := HS.out.below hb; have c1 := hs.cell; clear HS hb; have HS := Lib.hid hs; clear hs)
    | (go_at_call 9; refine (HI.out.right _ _ (numI _ (by decide))).mono ?_; (first | rw [HE.out.1]); rintro e wx ⟨rfl, hb⟩; have hs := HS.out.below hb; have c1 := hs.cell; clear HS hb; have HS := Lib.hid hs; clear hs))
  go_ret
  exact ⟨rfl, HS.out.low⟩
end Go.Proofs.Ytbkffcopahiilaa
