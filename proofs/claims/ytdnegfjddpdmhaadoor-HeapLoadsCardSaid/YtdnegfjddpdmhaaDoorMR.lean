/-
  The document's own page: Room.
-/
import Derived.Test.YtdnegfjddpdmhaaDoorRefD
import Derived.Deep.RegionHeld3
import Derived.Deep.QuietTactic
import Derived.BigQuiet
import Derived.Test.YtdnegfjddpdmhaaDoorLow
namespace Go.Proofs.YtdnegfjddpdmhaaDoor
open Go.RowKit Go.Lib

def RmRel (w1 : World) (s : List Slot) (i : Value) (wr : World) : Prop :=
  ∃ u : Nat, u ≤ 201 ∧ i = .int .i64 ((u : Int) - 1) ∧ roomI s (ffP s) ≤ (u : Int) - 1 ∧ Below w1.heap.size w1 wr
theorem room_low {s : List Slot} (h : Fit s) : -1 ≤ roomI s (ffP s) ∧ roomI s (ffP s) ≤ 200 := by
  have h1 := h.room
  have h2 := ff_le s
  unfold roomI roomP
  split
  · omega
  · rw [Int.toNat_natCast]
    omega
theorem rput_zeros {s : List Slot} (h : Fit s) (ht : TrimP s) (n : Nat) : (rputP s (ffP s) (List.replicate n 0)).isSome = decide ((n : Int) ≤ roomI s (ffP s)) := by
  rw [rput_put h ht _ (zeros_bytes n)]
  simp only [putP, List.length_replicate]
  split
  · rename_i h; rw [decide_eq_true h]; rfl
  · rename_i h; rw [decide_eq_false h]; rfl

set_option maxRecDepth 100000 in
set_option maxHeartbeats 3200000 in
theorem refRoom_any (w : World) (A : Option Addr) (n c : Nat) (xs : List Sv) (h : PgR w A n c xs) (hn : n ≤ 300) (hf : Fit (slotsOf xs)) (ht : TrimP (slotsOf xs)) :
    Calls Tryd.prog 49 #[.agg #[.slice A n c]] w fun e w' => e = .returned (.int .i64 (roomI (slotsOf xs) (ffP (slotsOf xs)))) ∧ Below w.heap.size w w' := by
  have hba := (Below.refl w.heap.size w).alloc (Nat.le_refl _) (.cells #[.slice A n c] 70)
  have HB := Lib.hid hba
  have HBX := Lib.hid (Blk.new w 70 #[.slice A n c])
  have H1 := Lib.hid (h.below hba)
  obtain ⟨w1, hw1⟩ : ∃ w1, w1 = w.alloc (.cells #[.slice A n c] 70) := ⟨_, rfl⟩
  rw [← hw1] at HB H1 HBX
  have HW1 := Lib.hid hw1
  have hlow := room_low hf
  have HZ := Lib.hid (fun n => rput_zeros hf ht n)
  obtain ⟨R, hR⟩ : ∃ R, R = roomI (slotsOf xs) (ffP (slotsOf xs)) := ⟨_, rfl⟩
  rw [← hR] at hlow HZ ⊢
  have HR := Lib.hid hR
  obtain ⟨hlo, hhi⟩ := hlow
  clear hba hw1 h hf ht hR
  go_enter Tryd.func49, Tryd.ntmps49
  go_upto_region 1 with (fail)
  rw [← HW1.out]
  go_wp2_with fail
  go_loopw [3] (fun i wr => RmRel w1 (slotsOf xs) i wr) (fun i _ => (intOf i + 1).toNat)
  case atStart => exact ⟨201, by omega, rfl, by rw [← HR.out]; omega, Below.refl _ _⟩
  case round =>
    obtain ⟨u, hu, rfl, hRu, hbel⟩ := hrel
    have HBL := Lib.hid hbel
    rw [← HR.out] at hRu
    clear hbel
    by_cases hu0 : u = 0
    · subst hu0
      have hRe : R = -1 := by omega
      subst hRe
      have HF := Lib.hid (HB.out.trans (HBL.out.mono HB.out.size))
      go_wp2
      go_ret
      exact ⟨rfl, HF.out⟩
    · obtain ⟨q, rfl⟩ : ∃ q, u = q + 1 := ⟨u - 1, by omega⟩
      have hq0 : (0 : Int) ≤ (q : Int) := Int.natCast_nonneg _
      have hq200 : q ≤ 200 := by omega
      rw [show ((q + 1 : Nat) : Int) - 1 = (q : Int) by omega] at hRu ⊢
      have hmk : ∀ w : World, (Instr.makeSlice 33 (.int .i64 (q : Int)) (.int .i64 (q : Int))).run Tryd.prog w = .ok (.slice (some ⟨w.heap.size, 0, none⟩) q q) (w.alloc (.cells (cells (List.replicate q 0)).toArray 5)) := fun w => make_zeros w q _ rfl (by omega)
      have hcb : wr.cell? ⟨w.heap.size, 0, none⟩ = some (.slice A n c) := (HBL.out.cell (p := ⟨w.heap.size, 0, none⟩) HBX.out.lt).trans (by rw [HBX.out.cell]; rfl)
      have hba : Below wr.heap.size wr (wr.alloc (.cells (cells (List.replicate q 0)).toArray 5)).drew := ((Below.refl _ _).alloc (Nat.le_refl _) _).drew
      have HBA := Lib.hid hba
      have HADD := Lib.hid (refAdd_any _ A n c xs ((H1.out.below HBL.out).below hba) hn (some ⟨wr.heap.size, 0, none⟩) q q (List.replicate q 0) (rd_made wr q) (zeros_bytes q) (by omega))
      have HZQ := Lib.hid (HZ.out q)
      clear hba
      go_wp2_with fail
      go_region_held3 (fun w' => w'.cell? ⟨w.heap.size, 0, none⟩ = some (.slice A n c)) (first | exact HC5.out | exact hcb | go_keep)
        (first | (go_at_call 50; refine HADD.out.mono ?_; rintro e w5 ⟨v5, rfl, hown5, hb5⟩; have HC5 := Lib.hid ((((HBA.out.trans (hb5.mono HBA.out.size))).cell (p := ⟨w.heap.size, 0, none⟩) (World.block_lt_of_cell? _ _ hcb)).trans hcb)))
      have HB5 := Lib.hid (HBL.out.trans ((HBA.out.trans (hb5.mono HBA.out.size)).mono HBL.out.size))
      rw [HZQ.out]
      clear hown5 hb5 HADD HZQ hcb
      by_cases hok : (q : Int) ≤ R
      · have hRq : R = (q : Int) := by omega
        have HF := Lib.hid (HB.out.trans (HB5.out.mono HB.out.size))
        rw [decide_eq_true hok]
        subst hRq
        go_wp2
        go_ret
        exact ⟨rfl, HF.out⟩
      · have HF := Lib.hid (show RmRel w1 (slotsOf xs) (.int .i64 ((q : Int) - 1)) w5 from ⟨q, by omega, rfl, by rw [← HR.out]; omega, HB5.out⟩)
        rw [decide_eq_false hok]
        go_wp2
        go_roundw
        case rel => exact HF.out
        case measure => simp [intOf]
end Go.Proofs.YtdnegfjddpdmhaaDoor

/-
  The document's own page: Of.
-/
namespace Go.Proofs.YtdnegfjddpdmhaaDoor
open Go.RowKit Go.Lib

/-- every block of bytes stays -/
def Stay8 (w w' : World) : Prop := ∀ g cs, Blk w g 5 cs → Blk w' g 5 cs
theorem Stay8.refl (w : World) : Stay8 w w := fun _ _ h => h
theorem Stay8.trans {a b c : World} (h : Stay8 a b) (k : Stay8 b c) : Stay8 a c := fun g cs hh => k g cs (h g cs hh)
theorem Stay8.below {w w' : World} (h : Below w.heap.size w w') : Stay8 w w' := fun _ _ hh => hh.below h hh.lt
theorem blk_ne {w : World} {g g' : Nat} {t t' : TypeId} {cs cs' : Array Value} (h : Blk w g t cs) (h' : Blk w g' t' cs') (ht : t ≠ t') : g ≠ g' := by
  rintro rfl
  unfold Blk at h h'
  rw [h] at h'
  injection h' with h'
  injection h' with _ h'
  exact ht h'
theorem Stay8.setCell {w : World} {b o : Nat} {t : TypeId} {cs : Array Value} (hb : Blk w b t cs) (ht : t ≠ 5) (u : Value) : Stay8 w (w.setCell ⟨b, o, none⟩ u) :=
  fun _ _ h => h.far (p := ⟨b, o, none⟩) (blk_ne h hb (Ne.symm ht)) u
theorem Stay8.grown {w w' : World} {base size n : Nat} {e : TypeId} {v : Value} {xs : List Value} (hown : w.ownsRow base e size v n xs) (he : e ≠ 5) (hg : w.grownBy w' v.ownBlock) : Stay8 w w' := by
  intro g cs h
  refine (hg.block g h.lt fun hv => ?_).trans h
  rcases hown.2 with ⟨rfl, _⟩ | ⟨g', cap, cur, rfl, _, hg', _⟩
  · cases hv
  · simp only [Value.ownBlock] at hv
    injection hv with e1
    subst e1
    exact blk_ne (t := 5) h hg' (Ne.symm he) rfl

/-- a slot whose bytes are a whole block -/
def YOk (B : Nat) (w : World) (y : Sv) : Prop := match y.o with
  | none => y = frS
  | some b => ∃ g, y = ⟨some ⟨g, 0, none⟩, b.length, b.length, some b⟩ ∧ Blk w g 5 (cells b).toArray ∧ IsBytes b ∧ b.length ≤ 200 ∧ B ≤ g
theorem YOk.stay {B : Nat} {w w' : World} {y : Sv} (h : YOk B w y) (hs : Stay8 w w') : YOk B w' y := by
  unfold YOk at h ⊢
  split
  · rename_i e; rw [e] at h; exact h
  · rename_i b e
    rw [e] at h
    obtain ⟨g, h1, h2, h3⟩ := h
    exact ⟨g, h1, hs _ _ h2, h3⟩
theorem YOk.ok {B : Nat} {w : World} {y : Sv} (h : YOk B w y) : y.Ok w := by
  unfold YOk at h
  split at h
  · rw [h]; exact frS_ok w
  · rename_i b e
    obtain ⟨g, rfl, h2, h3, h4, _⟩ := h
    have hown := own_blk (base := 0) h2 (Nat.zero_le _) (by unfold maxLen; omega)
    exact ⟨⟨_, rfl⟩, Rd.of_own hown, h3, rfl, Nat.le_refl _, by show b.length ≤ maxLen; unfold maxLen; omega⟩

/-- how far the loop is -/
structure OfSt (w w2 : World) (l : List Int) (ys : List Sv) (e k : Nat) (A' : Option Addr) (c' : Nat) (wr : World) : Prop where
  b1 : Blk wr w.heap.size 70 #[.slice none 0 0]
  b2 : Blk wr (w.heap.size + 1) 70 #[.slice A' ys.length c']
  own : wr.ownsRow w2.heap.size 33 1 (.slice A' ys.length c') ys.length (vals ys)
  ok : ∀ y ∈ ys, YOk w.heap.size wr y
  len : ys.length = k
  wt : wtP (slotsOf ys) + e = 256
  pg : ∀ s, IsPg l s → slotsOf ys = s.take k
  low : Below w.heap.size w wr
  sz : w2.heap.size ≤ wr.heap.size
def OfRel (w w2 : World) (l : List Int) (N : Nat) (end' i : Value) (wr : World) : Prop :=
  ∃ (ys : List Sv) (e k : Nat) (A' : Option Addr) (c' : Nat), k ≤ N ∧ i = .int .i64 k ∧ end' = .int .i64 (e : Int) ∧ OfSt w w2 l ys e k A' c' wr

def OfRet (l : List Int) (w : World) (e : Ending) (w' : World) : Prop :=
  ∃ A' n' c' xs, e = .returned (.tuple #[.agg #[.slice A' n' c'], .bool (ofP l).isSome]) ∧ PgR w' A' n' c' xs ∧ (∀ s, ofP l = some s → slotsOf xs = s) ∧ n' ≤ 255 ∧ Below w.heap.size w w' ∧ w'.ownsRow w.heap.size 33 1 (.slice A' n' c') n' (vals xs) ∧ ∀ y ∈ xs, YOk w.heap.size w' y
theorem of_no {l : List Int} {w w' : World} (h : ofP l = none) (hb : Below w.heap.size w w') : OfRet l w (.returned (.tuple #[.agg #[.slice none 0 0], .bool false])) w' :=
  ⟨none, 0, 0, [], by rw [h]; rfl, PgR.nil, fun s hs => by rw [h] at hs; (cases hs), by omega, hb, World.ownsRow_nil _ _ _ _, fun y hy => (by cases hy)⟩

set_option maxRecDepth 100000 in
set_option maxHeartbeats 3200000 in
theorem of_len (w : World) (A : Option Addr) (n c : Nat) (l : List Int) (hl : l.length = n) (hn : n ≠ 256) : Calls Tryd.prog 44 #[.slice A n c] w (OfRet l w) := by
  have hni : ((n : Int) != 256) = true := by simp; omega
  have hno : ofP l = none := by
    cases ho : ofP l with
    | none => rfl
    | some s => exact absurd (ofP_some ho).len (by omega)
  have HF := Lib.hid hno
  clear hno
  go_enter Tryd.func44, Tryd.ntmps44
  go_wp2
  refine bodyPost_ret (by rw [results_cell_tmp rfl]; go_simp; exact rfl) rfl ?_
  exact of_no HF.out ((Below.refl _ _).alloc (Nat.le_refl _) _)

/-- an own row of slots grows by one -/
theorem OfSt.grow {w w2 wr w5 : World} {l : List Int} {ys : List Sv} {e k e2 : Nat} {A' A5 : Option Addr} {c' c5 : Nat} {y : Sv} (h : OfSt w w2 l ys e k A' c' wr) (h2 : w2.heap.size = w.heap.size + 2)
    (hown : w5.ownsRow w2.heap.size 33 1 (.slice A5 (ys.length + 1) c5) (ys.length + 1) (vals ys ++ [y.val])) (hb1 : Blk w5 w.heap.size 70 #[.slice none 0 0]) (hb2 : Blk w5 (w.heap.size + 1) 70 #[.slice A' ys.length c'])
    (hst : Stay8 wr w5) (hy : YOk w.heap.size w5 y) (hlow : Below w.heap.size wr w5) (hwt : wtP (slotsOf ys) + (bsS y.o).length + e2 = 256) (hpg : ∀ s, IsPg l s → s[k]? = some y.o) :
    OfSt w w2 l (ys ++ [y]) e2 (k + 1) A5 c5 (w5.setCell ⟨w.heap.size + 1, 0, none⟩ (.slice A5 (ys.length + 1) c5)) := by
  have hs8 : Stay8 w5 (w5.setCell ⟨w.heap.size + 1, 0, none⟩ (.slice A5 (ys.length + 1) c5)) := .setCell hb2 (by decide) _
  refine ⟨hb1.far (p := ⟨w.heap.size + 1, 0, none⟩) (by show w.heap.size ≠ w.heap.size + 1; omega) _, ?_, ?_, fun z hz => ?_, by simp [h.len], ?_, fun s hs => ?_, ?_, ?_⟩
  · have h1 := hb2.put 0 (.slice A5 (ys.length + 1) c5)
    rw [List.length_append]
    exact h1
  · rw [List.length_append, show vals (ys ++ [y]) = vals ys ++ [y.val] by simp [vals]]
    exact own_set hown (own_not hown (by show w.heap.size + 1 < w2.heap.size; omega)) _
  · rcases List.mem_append.1 hz with hz | hz
    · exact ((h.ok z hz).stay hst).stay hs8
    · rw [List.mem_singleton.1 hz]; exact hy.stay hs8
  · rw [show slotsOf (ys ++ [y]) = slotsOf ys ++ [y.o] by simp [slotsOf], wt_append, wt_cons, wt_nil]
    omega
  · rw [show slotsOf (ys ++ [y]) = slotsOf ys ++ [y.o] by simp [slotsOf], h.pg s hs, take_succ_at (hpg s hs)]
  · exact (h.low.trans hlow).setCell (p := ⟨w.heap.size + 1, 0, none⟩) (by show w.heap.size ≤ w.heap.size + 1; omega) _
  · have h1 := h.sz
    have h3 := hlow.size
    simp [World.setCell]
    omega

set_option maxRecDepth 100000 in
set_option maxHeartbeats 12800000 in
theorem of_at (w : World) (g c N : Nat) (l : List Int) (h : PAt w w.heap.size g c l N) : Calls Tryd.prog 44 #[.slice (some ⟨g, 0, none⟩) 256 c] w (OfRet l w) := by
  obtain ⟨i0, hi, hz0, hz1, hz2⟩ := info_parts Tryd.dkinfo22
  have hN := h.n_le
  have hc := h.cap
  have hct := h.top
  unfold maxLen at hct
  have H := Lib.hid h
  obtain ⟨w2, hw2⟩ : ∃ w2, w2 = (w.alloc (.cells #[.slice none 0 0] 70)).alloc (.cells #[.slice none 0 0] 70) := ⟨_, rfl⟩
  have hs2 : w2.heap.size = w.heap.size + 2 := by rw [hw2]; simp
  have hb2 : Below w.heap.size w w2 := by rw [hw2]; exact ((Below.refl _ _).alloc (Nat.le_refl _) _).alloc (by simp) _
  have hk1 : Blk w2 w.heap.size 70 #[.slice none 0 0] := by rw [hw2]; exact (Blk.new w _ _).alloc _
  have hk2 : Blk w2 (w.heap.size + 1) 70 #[.slice none 0 0] := by
    have h1 := Blk.new (w.alloc (.cells #[.slice none 0 0] 70)) 70 #[.slice none 0 0]
    rw [hw2]
    have e : (w.alloc (.cells #[.slice none 0 0] 70)).heap.size = w.heap.size + 1 := by simp
    rw [e] at h1
    exact h1
  have HS2 := Lib.hid hs2
  have HST := Lib.hid (show OfSt w w2 l [] 256 0 none 0 w2 from ⟨hk1, hk2, World.ownsRow_nil _ _ _ _, fun y hy => (by cases hy), rfl, by simp [slotsOf, wt_nil], fun s _ => by simp [slotsOf], hb2, Nat.le_refl _⟩)
  have HW2 := Lib.hid hw2
  clear hw2 hs2 hb2 hk1 hk2 h
  go_enter Tryd.func44, Tryd.ntmps44
  go_wp2_with fail
  rw [← HW2.out]
  go_loopw [5, 6] (fun e i wr => OfRel w w2 l N e i wr) (fun _ i _ => N - (intOf i).toNat)
  case atStart => exact ⟨[], 256, 0, none, 0, by omega, rfl, rfl, HST.out⟩
  case round =>
    obtain ⟨ys, e, k, A', c', hk, rfl, rfl, hst⟩ := hrel
    have HO := Lib.hid hst
    have hk0 : (0 : Int) ≤ (k : Int) := Int.natCast_nonneg _
    have he0 : (0 : Int) ≤ (e : Int) := Int.natCast_nonneg _
    have he256 : e ≤ 256 := by have := hst.wt; omega
    have hp := H.out.below hst.low (Nat.le_refl _)
    have hfirst := hp.first
    have hcb2 : wr.cell? ⟨w.heap.size + 1, 0, none⟩ = some (.slice A' ys.length c') := by rw [hst.b2.cell]; rfl
    have hfb2 := hst.b2.frozen 0
    have hcb1 : wr.cell? ⟨w.heap.size, 0, none⟩ = some (.slice none 0 0) := by rw [hst.b1.cell]; rfl
    have hfb1 := hst.b1.frozen 0
    have hyl : ys.length ≤ 255 := by rw [hst.len]; omega
    by_cases hlt : k < N
    · have hlt1 : (k : Int) < (N : Int) := by omega
      have hcell := hp.cell (k := 1 + k) (by omega)
      have hbyte := H.out.byt _ (List.getElem_mem (show 1 + k < l.length by rw [H.out.len]; omega))
      obtain ⟨m, hm⟩ : ∃ m, m = l[1 + k]'(by rw [H.out.len]; omega) := ⟨_, rfl⟩
      rw [← hm] at hcell hbyte
      have HMK := Lib.hid (show ∀ s, IsPg l s → ∃ o, s[k]? = some o ∧ mkS o = m from fun s hs => by
        have hN2 : N = s.length := by
          have e1 := hs.head
          rw [H.out.head] at e1
          have := Option.some.inj e1
          omega
        have hks : k < s.length := by omega
        refine ⟨_, List.getElem?_eq_getElem hks, ?_⟩
        have h1 := hs.mark (List.getElem?_eq_getElem hks)
        rw [List.getElem?_eq_getElem (show 1 + k < l.length by rw [H.out.len]; omega)] at h1
        rw [hm]
        exact (Option.some.inj h1).symm)
      have HP := Lib.hid hp
      clear hm hp hst
      by_cases hm0 : m = 0
      · subst hm0
        go_wp2_with (at_builtin; refine wpList_append_own _ rfl (.tmp 38) (.tmp 39) 38 rfl w2.heap.size 33 i0 (.slice none 0 0) 1 24 Tryd.underlying38 hi hz0 hz1 hz2 rfl (by decide) _ _ _ rfl (HO.out.own.alloc _) ⟨wr.heap.size, 0, none⟩ 1 1 [.slice none 0 0] rfl rfl (cell_one_new _ _ _) ?c2 ?c3 ?c4 ?c5 ?_)
        case c2 => intro u hu; simp at hu; subst hu; rfl
        case c3 => first | (unfold maxLen; omega) | (simp [maxLen]; omega)
        case c4 => first | omega | (simp; omega)
        case c5 => have h := HO.out.sz; first | omega | (simp; omega)
        intro v5 w5 hown5 hgr5 _
        obtain ⟨A5, c5, rfl, _, _⟩ := own_shape hown5
        have hba : Below wr.heap.size wr (wr.alloc (.cells #[.slice none 0 0] 33)) := (Below.refl _ _).alloc (Nat.le_refl _) _
        have hb5 : Below w2.heap.size wr w5 := ((Below.refl _ _).alloc HO.out.sz _).trans (below_own (HO.out.own.alloc _) hgr5 (by have h := HO.out.sz; first | omega | (simp; omega)))
        have hbk1 := HO.out.b1.below hb5 (by have := HS2.out; omega)
        have hbk2 := HO.out.b2.below hb5 (by have := HS2.out; omega)
        have hcl5 : w5.cell? ⟨w.heap.size + 1, 0, none⟩ = some (.slice A' ys.length c') := by rw [hbk2.cell]; rfl
        have hfz5 := hbk2.frozen 0
        have hst8 : Stay8 wr w5 := (Stay8.below hba).trans (Stay8.grown (HO.out.own.alloc _) (by decide) hgr5)
        have HF := Lib.hid (show OfRel w w2 l N (.int .i64 (e : Int)) (.int .i64 ((k : Int) + 1)) (w5.setCell ⟨w.heap.size + 1, 0, none⟩ (.slice A5 (ys.length + 1) c5)) from
          ⟨_, e, k + 1, A5, c5, by omega, by simp, rfl, HO.out.grow (y := frS) HS2.out hown5 hbk1 hbk2 hst8 rfl (hb5.mono (by have := HS2.out; omega)) (by have := HO.out.wt; show _ + 0 + _ = _; omega) (fun s hs => by
            obtain ⟨o, ho, hmo⟩ := HMK.out s hs
            rw [ho, mkS_zero.1 hmo]
            rfl)⟩)
        clear hown5 hgr5 hb5 hbk1 hbk2 hst8 hba
        go_wp2
        go_roundw
        case rel => exact HF.out
        case measure => simp [intOf]; omega
      · obtain ⟨q, rfl⟩ : ∃ q : Nat, m = (q : Int) + 1 := ⟨(m - 1).toNat, by omega⟩
        have hq0 : (0 : Int) ≤ (q : Int) := Int.natCast_nonneg _
        have hq255 : q ≤ 255 := by omega
        have hmq : (q : Int) + 1 - 1 = (q : Int) := by omega
        by_cases h200 : 200 < q
        · have HN := Lib.hid (show ofP l = none from by
            cases ho : ofP l with
            | none => rfl
            | some s =>
              exfalso
              obtain ⟨o, ho1, hmo⟩ := HMK.out s (ofP_some ho)
              have h1 := (ofP_some ho).fit.len o (List.mem_of_getElem? ho1)
              have h2 := mkS_bs o
              omega)
          have HBF := Lib.hid (HO.out.low.setCell (p := ⟨w.heap.size, 0, none⟩) (Nat.le_refl _) (.slice none 0 0))
          go_wp2
          refine bodyPost_ret (by rw [results_cell_tmp rfl]; go_simp; exact rfl) rfl ?_
          exact of_no HN.out HBF.out
        by_cases hqe : e < q
        · have HN := Lib.hid (show ofP l = none from by
            cases ho : ofP l with
            | none => rfl
            | some s =>
              exfalso
              obtain ⟨o, ho1, hmo⟩ := HMK.out s (ofP_some ho)
              have h1 := wt_take_le' ho1
              have h2 := mkS_bs o
              have h3 := (ofP_some ho).slots
              have h4 := HO.out.wt
              rw [HO.out.pg s (ofP_some ho)] at h4
              omega)
          have HBF := Lib.hid (HO.out.low.setCell (p := ⟨w.heap.size, 0, none⟩) (Nat.le_refl _) (.slice none 0 0))
          have hqei : (e : Int) < (q : Int) := by omega
          go_wp2
          refine bodyPost_ret (by rw [results_cell_tmp rfl]; go_simp; exact rfl) rfl ?_
          exact of_no HN.out HBF.out
        have hqei : ¬ ((e : Int) < (q : Int)) := by omega
        have hqeb : decide ((e : Int) < (q : Int)) = false := by simp; omega
        obtain ⟨e', he'⟩ : ∃ e', e' = e - q := ⟨_, rfl⟩
        have hei : (e : Int) - (q : Int) = (e' : Int) := by omega
        have hei2 : (e' : Int) + (q : Int) = (e : Int) := by omega
        have he'0 : (0 : Int) ≤ (e' : Int) := Int.natCast_nonneg _
        have he'e : e' ≤ e := by omega
        have heq : e - e' = q := by omega
        have HE := Lib.hid he'
        have hmk : ∀ w : World, (Instr.makeSlice 33 (.int .i64 (q : Int)) (.int .i64 (q : Int))).run Tryd.prog w = .ok (.slice (some ⟨w.heap.size, 0, none⟩) q q) (w.alloc (.cells (cells (List.replicate q 0)).toArray 5)) := fun w => make_zeros w q _ rfl (by omega)
        obtain ⟨b, hb⟩ : ∃ b, b = (l.drop e').take q := ⟨_, rfl⟩
        have hbl : b.length = q := by rw [hb, List.length_take, List.length_drop, H.out.len]; omega
        have hbb : IsBytes b := by rw [hb]; exact (H.out.byt.drop e').take q
        have hsrc : ∀ j v, (cells b)[j]? = some v → (wr.alloc (.cells (cells (List.replicate q 0)).toArray 5)).cell? ⟨g, e' + j, none⟩ = some v := fun j v hv => by
          have hj : j < q := by have := (List.getElem?_eq_some_iff.1 hv).1; rw [cells_len, hbl] at this; exact this
          have h1 := HP.out.cell (k := e' + j) (by omega)
          have h2 := (Below.refl wr.heap.size wr).alloc (Nat.le_refl _) (.cells (cells (List.replicate q 0)).toArray 5)
          rw [h2.cell (p := ⟨g, e' + j, none⟩) (World.block_lt_of_cell? _ _ h1), h1]
          rw [hb] at hv
          simp only [cells, List.getElem?_map, List.getElem?_take, if_pos hj, List.getElem?_drop, List.getElem?_eq_getElem (show e' + j < l.length by rw [H.out.len]; omega), Option.map_some] at hv
          exact hv
        have HSRC := Lib.hid hsrc
        have HBI := Lib.hid (And.intro hbl hbb)
        have HBE := Lib.hid hb
        have hg3 := Blk.new wr 5 (cells (List.replicate q 0)).toArray
        have HG3 := Lib.hid hg3
        have HB3 := Lib.hid ((Below.refl wr.heap.size wr).alloc (Nat.le_refl _) (.cells (cells (List.replicate q 0)).toArray 5))
        clear hsrc hbl hbb hb hg3 he' hbyte
        by_cases hce : c = e'
        · obtain rfl : e' = 256 := by omega
          obtain rfl : c = 256 := by omega
          have hq00 := Lib.hid (show q = 0 by omega)
          have hE256 : (e : Int) ≤ 256 := by omega
          have hE2 : (256 : Int) ≤ (e : Int) := by omega
          have hei3 : (e : Int) - (q : Int) = 256 := by omega
          have hei4 : (256 : Int) + (q : Int) = (e : Int) := by omega
          go_wp2_with (refine wpList_copy_splice rfl (.tmp 55) (.tmp 61) 33 33 rfl 5 Tryd.underlying33 Tryd.dksize5 _ _ _ _ _ _ rfl rfl wr.heap.size 0 (cells (List.replicate q 0)) 5 HG3.out (cells b) ?k1 ?k2 ?k3 (cells_one _) wr.heap.size wr HB3.out (Nat.le_refl _) ?_)
          case k1 => rw [cells_len, HBI.out.1]
          case k2 => intro h0; exact absurd h0 (by rw [cells_len, HBI.out.1]; have := hq00.out; omega)
          case k3 => rw [cells_len, cells_len, List.length_replicate, HBI.out.1]; omega
          intro w4 hg4 hb4
          have hg4' : Blk w4 wr.heap.size 5 (cells b).toArray := by
            have h := hg4.out
            rw [splice_whole _ _ (by rw [cells_len, cells_len, List.length_replicate, HBI.out.1])] at h
            exact h
          have hown4 := own_below HO.out.own hb4 (Nat.le_refl _)
          have hbk14 := HO.out.b1.below hb4 HO.out.b1.lt
          have hbk24 := HO.out.b2.below hb4 HO.out.b2.lt
          have hcl4 : w4.cell? ⟨w.heap.size + 1, 0, none⟩ = some (.slice A' ys.length c') := by rw [hbk24.cell]; rfl
          have hfz4 := hbk24.frozen 0
          have hsz4 : w2.heap.size ≤ w4.heap.size := Nat.le_trans HO.out.sz hb4.size
          have H4 := Lib.hid (And.intro hg4' (And.intro hown4 (And.intro hbk14 (And.intro hbk24 (And.intro hb4 hsz4)))))
          clear hg4 hg4' hbk14 hbk24 hb4 hcb2 hfb2
          go_wp2_with (at_builtin; refine wpList_append_own _ rfl (.tmp 64) (.tmp 66) 38 rfl w2.heap.size 33 i0 (.slice none 0 0) 1 24 Tryd.underlying38 hi hz0 hz1 hz2 rfl (by decide) _ _ _ rfl (hown4.alloc _) ⟨w4.heap.size, 0, none⟩ 1 1 [.slice (some ⟨wr.heap.size, 0, none⟩) q q] rfl rfl (cell_one_new _ _ _) ?d2 ?d3 ?d4 ?d5 ?_)
          case d2 => intro u hu; simp at hu; subst hu; rfl
          case d3 => first | (unfold maxLen; omega) | (simp [maxLen]; omega)
          case d4 => first | omega | (simp; omega)
          case d5 => first | omega | (simp; omega)
          intro v5 w5 hown5 hgr5 _
          obtain ⟨A5, c5, rfl, _, _⟩ := own_shape hown5
          have hba : Below w4.heap.size w4 (w4.alloc (.cells #[.slice (some ⟨wr.heap.size, 0, none⟩) q q] 33)) := (Below.refl _ _).alloc (Nat.le_refl _) _
          have hb5 : Below w2.heap.size w4 w5 := ((Below.refl _ _).alloc H4.out.2.2.2.2.2 _).trans (below_own (H4.out.2.1.alloc _) hgr5 (by have h := H4.out.2.2.2.2.2; first | omega | (simp; omega)))
          have hbk1 := H4.out.2.2.1.below hb5 (by have := HS2.out; omega)
          have hbk2 := H4.out.2.2.2.1.below hb5 (by have := HS2.out; omega)
          have hcl5 : w5.cell? ⟨w.heap.size + 1, 0, none⟩ = some (.slice A' ys.length c') := by rw [hbk2.cell]; rfl
          have hfz5 := hbk2.frozen 0
          have hst45 : Stay8 w4 w5 := (Stay8.below hba).trans (Stay8.grown (H4.out.2.1.alloc _) (by decide) hgr5)
          have HF := Lib.hid (show OfRel w w2 l N (.int .i64 (256 : Int)) (.int .i64 ((k : Int) + 1)) (w5.setCell ⟨w.heap.size + 1, 0, none⟩ (.slice A5 (ys.length + 1) c5)) from
            ⟨_, 256, k + 1, A5, c5, by omega, by simp, rfl, HO.out.grow (y := ⟨some ⟨wr.heap.size, 0, none⟩, q, q, some b⟩) HS2.out hown5 hbk1 hbk2 ((Stay8.below H4.out.2.2.2.2.1).trans hst45)
              (show ∃ g, (⟨some ⟨wr.heap.size, 0, none⟩, q, q, some b⟩ : Sv) = ⟨some ⟨g, 0, none⟩, b.length, b.length, some b⟩ ∧ Blk w5 g 5 (cells b).toArray ∧ IsBytes b ∧ b.length ≤ 200 ∧ w.heap.size ≤ g from ⟨wr.heap.size, by rw [HBI.out.1], hst45 _ _ H4.out.1, HBI.out.2, by rw [HBI.out.1]; omega, HO.out.low.size⟩)
              ((H4.out.2.2.2.2.1.mono (by have := HO.out.low.size; omega)).trans (hb5.mono (by have := HS2.out; omega))) (by have h1 := HO.out.wt; have h2 := HE.out; simp only [bsS]; rw [HBI.out.1]; omega) (fun s hs => by
                obtain ⟨o, ho, hmo⟩ := HMK.out s hs
                rw [ho]
                have hne : o ≠ none := fun h => by rw [mkS_zero.2 h] at hmo; omega
                have hlo : (bsS o).length = q := by have := mkS_bs o; omega
                have h1 := hs.got ho
                have h2 := wt_take_succ ho
                have h3 := HO.out.wt
                rw [HO.out.pg s hs] at h3
                rw [hlo, show 256 - wtP (s.take (k + 1)) = 256 by have := HE.out; omega, ← HBE.out] at h1
                rw [some_bs hne, h1])⟩)
          clear hown5 hgr5 hb5 hbk1 hbk2 hst45 hba hown4
          go_wp2
          go_roundw
          case rel => exact HF.out
          case measure => simp [intOf]; omega
        · have hce2 : ¬ e' = c := fun h => hce h.symm
          go_wp2_with (refine wpList_copy_splice rfl (.tmp 55) (.tmp 61) 33 33 rfl 5 Tryd.underlying33 Tryd.dksize5 _ _ _ _ _ _ rfl rfl wr.heap.size 0 (cells (List.replicate q 0)) 5 HG3.out (cells b) ?k1 ?k2 ?k3 (cells_one _) wr.heap.size wr HB3.out (Nat.le_refl _) ?_)
          case k1 => rw [cells_len, HBI.out.1]
          case k2 => intro h0; first | exact fun j v hv => HSRC.out j v hv | exact ⟨rfl, _, rfl, fun j v hv => HSRC.out j v hv⟩ | exact ⟨_, rfl, fun j v hv => HSRC.out j v hv⟩
          case k3 => rw [cells_len, cells_len, List.length_replicate, HBI.out.1]; omega
          intro w4 hg4 hb4
          have hg4' : Blk w4 wr.heap.size 5 (cells b).toArray := by
            have h := hg4.out
            rw [splice_whole _ _ (by rw [cells_len, cells_len, List.length_replicate, HBI.out.1])] at h
            exact h
          have hown4 := own_below HO.out.own hb4 (Nat.le_refl _)
          have hbk14 := HO.out.b1.below hb4 HO.out.b1.lt
          have hbk24 := HO.out.b2.below hb4 HO.out.b2.lt
          have hcl4 : w4.cell? ⟨w.heap.size + 1, 0, none⟩ = some (.slice A' ys.length c') := by rw [hbk24.cell]; rfl
          have hfz4 := hbk24.frozen 0
          have hsz4 : w2.heap.size ≤ w4.heap.size := Nat.le_trans HO.out.sz hb4.size
          have H4 := Lib.hid (And.intro hg4' (And.intro hown4 (And.intro hbk14 (And.intro hbk24 (And.intro hb4 hsz4)))))
          clear hg4 hg4' hbk14 hbk24 hb4 hcb2 hfb2
          go_wp2_with (at_builtin; refine wpList_append_own _ rfl (.tmp 64) (.tmp 66) 38 rfl w2.heap.size 33 i0 (.slice none 0 0) 1 24 Tryd.underlying38 hi hz0 hz1 hz2 rfl (by decide) _ _ _ rfl (hown4.alloc _) ⟨w4.heap.size, 0, none⟩ 1 1 [.slice (some ⟨wr.heap.size, 0, none⟩) q q] rfl rfl (cell_one_new _ _ _) ?d2 ?d3 ?d4 ?d5 ?_)
          case d2 => intro u hu; simp at hu; subst hu; rfl
          case d3 => first | (unfold maxLen; omega) | (simp [maxLen]; omega)
          case d4 => first | omega | (simp; omega)
          case d5 => first | omega | (simp; omega)
          intro v5 w5 hown5 hgr5 _
          obtain ⟨A5, c5, rfl, _, _⟩ := own_shape hown5
          have hba : Below w4.heap.size w4 (w4.alloc (.cells #[.slice (some ⟨wr.heap.size, 0, none⟩) q q] 33)) := (Below.refl _ _).alloc (Nat.le_refl _) _
          have hb5 : Below w2.heap.size w4 w5 := ((Below.refl _ _).alloc H4.out.2.2.2.2.2 _).trans (below_own (H4.out.2.1.alloc _) hgr5 (by have h := H4.out.2.2.2.2.2; first | omega | (simp; omega)))
          have hbk1 := H4.out.2.2.1.below hb5 (by have := HS2.out; omega)
          have hbk2 := H4.out.2.2.2.1.below hb5 (by have := HS2.out; omega)
          have hcl5 : w5.cell? ⟨w.heap.size + 1, 0, none⟩ = some (.slice A' ys.length c') := by rw [hbk2.cell]; rfl
          have hfz5 := hbk2.frozen 0
          have hst45 : Stay8 w4 w5 := (Stay8.below hba).trans (Stay8.grown (H4.out.2.1.alloc _) (by decide) hgr5)
          have HF := Lib.hid (show OfRel w w2 l N (.int .i64 (e' : Int)) (.int .i64 ((k : Int) + 1)) (w5.setCell ⟨w.heap.size + 1, 0, none⟩ (.slice A5 (ys.length + 1) c5)) from
            ⟨_, e', k + 1, A5, c5, by omega, by simp, rfl, HO.out.grow (y := ⟨some ⟨wr.heap.size, 0, none⟩, q, q, some b⟩) HS2.out hown5 hbk1 hbk2 ((Stay8.below H4.out.2.2.2.2.1).trans hst45)
              (show ∃ g, (⟨some ⟨wr.heap.size, 0, none⟩, q, q, some b⟩ : Sv) = ⟨some ⟨g, 0, none⟩, b.length, b.length, some b⟩ ∧ Blk w5 g 5 (cells b).toArray ∧ IsBytes b ∧ b.length ≤ 200 ∧ w.heap.size ≤ g from ⟨wr.heap.size, by rw [HBI.out.1], hst45 _ _ H4.out.1, HBI.out.2, by rw [HBI.out.1]; omega, HO.out.low.size⟩)
              ((H4.out.2.2.2.2.1.mono (by have := HO.out.low.size; omega)).trans (hb5.mono (by have := HS2.out; omega))) (by have h1 := HO.out.wt; have h2 := HE.out; simp only [bsS]; rw [HBI.out.1]; omega) (fun s hs => by
                obtain ⟨o, ho, hmo⟩ := HMK.out s hs
                rw [ho]
                have hne : o ≠ none := fun h => by rw [mkS_zero.2 h] at hmo; omega
                have hlo : (bsS o).length = q := by have := mkS_bs o; omega
                have h1 := hs.got ho
                have h2 := wt_take_succ ho
                have h3 := HO.out.wt
                rw [HO.out.pg s hs] at h3
                rw [hlo, show 256 - wtP (s.take (k + 1)) = e' by have := HE.out; omega, ← HBE.out] at h1
                rw [some_bs hne, h1])⟩)
          clear hown5 hgr5 hb5 hbk1 hbk2 hst45 hba hown4
          go_wp2
          go_roundw
          case rel => exact HF.out
          case measure => simp [intOf]; omega
    · obtain rfl : k = N := by omega
      have hkk : ¬ ((k : Int) < (k : Int)) := by omega
      have hsh := own_shape hst.own
      have hcc : ys.length ≤ c' ∧ c' ≤ maxLen := by
        obtain ⟨_, _, e9, h1, h2⟩ := hsh
        injection e9 with _ _ e10
        rw [e10]; exact ⟨h1, h2⟩
      have hpgr : PgR wr A' ys.length c' ys := ⟨Rd.of_own hst.own, fun y hy => (hst.ok y hy).ok, hcc.1, hcc.2⟩
      obtain ⟨t, ht⟩ : ∃ t, t = slotsOf ys := ⟨_, rfl⟩
      have HT := Lib.hid ht
      have HALL := Lib.hid (show ∀ s, ofP l = some s → t = s from fun s hs => by
        rw [ht, hst.pg s (ofP_some hs)]
        have e1 := (ofP_some hs).head
        rw [H.out.head] at e1
        have e2 := Option.some.inj e1
        exact List.take_of_length_le (by omega))
      have HBYT := Lib.hid (show ∀ o ∈ t, IsBytes (bsS o) from fun o ho => by
        rw [ht] at ho
        simp only [slotsOf, List.mem_map] at ho
        obtain ⟨y, hy, rfl⟩ := ho
        have h1 := hst.ok y hy
        unfold YOk at h1
        split at h1
        · rename_i e; rw [e]; exact .nil
        · rename_i b e; rw [e]; obtain ⟨_, _, _, h2, _⟩ := h1; exact h2)
      have HBY := Lib.hid (refBytes_any wr A' ys.length c' ys hpgr)
      have HPG := Lib.hid hpgr
      have HPP := Lib.hid hp
      rw [← ht] at HBY
      clear hsh hst hp hpgr ht
      go_wp2_with fail
      refine HBY.out.mono ?_
      rintro e5 w5 ⟨v5, rfl, hown5, hb5⟩
      have hcb2' : w5.cell? ⟨w.heap.size + 1, 0, none⟩ = some (.slice A' ys.length c') := (hb5.cell (World.block_lt_of_cell? _ _ hcb2)).trans hcb2
      have hbk1 := HO.out.b1.below hb5 HO.out.b1.lt
      have hcb1' : w5.cell? ⟨w.heap.size, 0, none⟩ = some (.slice none 0 0) := by rw [hbk1.cell]; rfl
      have hfb1' := hbk1.frozen 0
      have HBK1 := Lib.hid hbk1
      have HB5 := Lib.hid hb5
      have HTR := Lib.hid (show ∀ k0, Calls Tryd.prog 73 #[.slice A' ys.length c'] (w5.drewN k0) (fun e w' => e = .returned (.slice A' (trimP t).length c') ∧ ∃ m, w' = w5.drewN m) from fun k0 => by
        refine (trim_any (w5.drewN k0) A' ys.length c' ys (HPG.out.below (by have h1 : Below wr.heap.size wr (w5.drewN k0) := ⟨hb5.os, hb5.tape, hb5.output, hb5.size, hb5.block⟩; exact h1))).mono ?_
        rintro e w' ⟨rfl, rfl⟩
        exact ⟨by rw [HT.out], k0, rfl⟩)
      have hwf : ∀ v m, Below w.heap.size w ((w5.drewN m).setCell ⟨w.heap.size, 0, none⟩ v) := fun v m =>
        Below.setCell (p := ⟨w.heap.size, 0, none⟩) (by have h1 := HO.out.low.trans (hb5.mono HO.out.low.size); exact ⟨h1.os, h1.tape, h1.output, h1.size, h1.block⟩) (Nat.le_refl _) v
      have HWF := Lib.hid hwf
      have hwf0 : ∀ v, Below w.heap.size w (w5.setCell ⟨w.heap.size, 0, none⟩ v) := fun v => (HO.out.low.trans (hb5.mono HO.out.low.size)).setCell (p := ⟨w.heap.size, 0, none⟩) (Nat.le_refl _) v
      have HWF0 := Lib.hid hwf0
      clear hwf hwf0 hbk1
      obtain ⟨A5, c5, rfl, hc51, hc52⟩ := own_shape hown5
      by_cases hcan : CanP t
      · have hbs : bytesP t = some (imgP t) := by unfold bytesP; rw [if_pos hcan]
        have hil := can_img hcan
        have HCAN := Lib.hid hcan
        rw [hbs] at hown5 hc51 ⊢
        simp only [Option.getD_some, Option.isSome_some] at hown5 hc51 ⊢
        rw [hil] at hown5 hc51 ⊢
        have HSM := Lib.hid (show ∀ k0, Calls Tryd.prog 27 #[.slice A5 256 c5, .slice (some ⟨g, 0, none⟩) 256 c] (w5.drewN k0) (fun e w' => e = .returned (.bool (decide (imgP t = l))) ∧ ∃ m, w' = w5.drewN m) from fun k0 =>
          Calls.quiet_of (sameBytes_dec A5 (some ⟨g, 0, none⟩) 256 256 c5 c (imgP t) l (w5.drewN k0) w5.heap.size w.heap.size ((Rd.of_own hown5).drewN k0) ((HPP.out.rd.below hb5 (by have := HO.out.low.size; omega)).drewN k0) (by omega)))
        clear hown5 hb5 hcan hbs hil hcb2 hfb2 hcb1 hfb1
        have hyt : t.length = ys.length := by rw [HT.out, slotsOf_len]
        by_cases himg : imgP t = l
        · have HIMG := Lib.hid himg
          rw [decide_eq_true himg] at HSM
          obtain ⟨r, hr⟩ : ∃ r, r = (trimP t).length := ⟨_, rfl⟩
          rw [← hr] at HTR
          have HR := Lib.hid hr
          have HYT := Lib.hid hyt
          clear himg hr hyt
          by_cases hrl : r = ys.length
          · have hpt : ofP l = some t := by
              have h1 : trimP t = t := by
                have h2 := trim_take t
                rw [← HR.out, hrl, ← HYT.out, List.take_length] at h2
                exact h2.symm
              have h3 : TrimP t := by rw [← h1]; exact trim_trim t
              exact ofP_pg ⟨can_fit HCAN.out HBYT.out, h3, HIMG.out.symm⟩
            have HPT := Lib.hid hpt
            have hneq : ((r : Int) != (ys.length : Int)) = false := by simp; omega
            have HLAST := Lib.hid (show ∀ m, OfRet l w (.returned (.tuple #[.agg #[.slice A' ys.length c'], .bool true])) ((w5.drewN m).setCell ⟨w.heap.size, 0, none⟩ (.slice A' ys.length c')) from fun m => by
              have ho5 : w5.ownsRow w2.heap.size 33 1 (.slice A' ys.length c') ys.length (vals ys) := own_below HO.out.own HB5.out (Nat.le_refl _)
              have ho6 : (w5.drewN m).ownsRow w2.heap.size 33 1 (.slice A' ys.length c') ys.length (vals ys) := ho5
              have ho7 := own_set (p := ⟨w.heap.size, 0, none⟩) ho6 (own_not ho6 (by show w.heap.size < w2.heap.size; have := HS2.out; omega)) (.slice A' ys.length c')
              have hs8 : Stay8 wr ((w5.drewN m).setCell ⟨w.heap.size, 0, none⟩ (.slice A' ys.length c')) :=
                (Stay8.below HB5.out).trans (show Stay8 w5 _ from Stay8.setCell (w := w5.drewN m) (HBK1.out.drewN m) (by decide) _)
              exact ⟨A', ys.length, c', ys, by rw [HPT.out]; rfl, ⟨Rd.of_own ho7, fun y hy => ((HO.out.ok y hy).stay hs8).ok, hcc.1, hcc.2⟩, fun s hs => by rw [← HT.out]; exact HALL.out s hs, hyl, HWF.out _ _, own_base ho7 (by have := HS2.out; omega), fun y hy => (HO.out.ok y hy).stay hs8⟩)
            clear hpt
            go_wp2_with fail
            go_quiet (first | (go_at_call 27; exact HSM.out _) | (go_at_call 73; exact HTR.out _))
            go_wp2
            refine bodyPost_ret (by rw [results_cell_tmp rfl]; go_simp; exact rfl) rfl ?_
            exact HLAST.out _
          · have HN := Lib.hid (show ofP l = none from by
              cases ho : ofP l with
              | none => rfl
              | some s =>
                exfalso
                have h1 := HALL.out s ho
                have h2 := trim_id (ofP_some ho).trim
                rw [← h1] at h2
                apply hrl
                rw [HR.out, h2, HYT.out])
            have hneq : ((r : Int) != (ys.length : Int)) = true := by simp; omega
            go_wp2_with fail
            go_quiet (first | (go_at_call 27; exact HSM.out _) | (go_at_call 73; exact HTR.out _))
            go_wp2
            refine bodyPost_ret (by rw [results_cell_tmp rfl]; go_simp; exact rfl) rfl ?_
            exact of_no HN.out (HWF.out _ _)
        · have HN := Lib.hid (show ofP l = none from by
            cases ho : ofP l with
            | none => rfl
            | some s =>
              exfalso
              have h1 := HALL.out s ho
              apply himg
              rw [h1]
              exact (ofP_some ho).img.symm)
          rw [decide_eq_false himg] at HSM
          clear himg
          go_wp2_with fail
          go_quiet (first | (go_at_call 27; exact HSM.out _) | (go_at_call 73; exact HTR.out _))
          go_wp2
          refine bodyPost_ret (by rw [results_cell_tmp rfl]; go_simp; exact rfl) rfl ?_
          exact of_no HN.out (HWF.out _ _)
      · have hbs : bytesP t = none := by unfold bytesP; rw [if_neg hcan]
        have HN := Lib.hid (show ofP l = none from by
          cases ho : ofP l with
          | none => rfl
          | some s =>
            exfalso
            have h1 := HALL.out s ho
            apply hcan
            rw [h1]
            exact fit_can (ofP_some ho).fit)
        rw [hbs]
        simp only [Option.getD_none, Option.isSome_none]
        clear hown5 hb5 hcan hbs hcb2 hfb2 hcb1 hfb1 hc51
        go_wp2_with fail
        go_quiet (fail)
        go_wp2
        refine bodyPost_ret (by rw [results_cell_tmp rfl]; go_simp; exact rfl) rfl ?_
        exact of_no HN.out (HWF.out _ _)
end Go.Proofs.YtdnegfjddpdmhaaDoor

/-
  asks: all that a page tells is what the document says.
-/
namespace Go.Proofs.YtdnegfjddpdmhaaDoor
open Go.RowKit Go.Lib

theorem of_sl (w : World) (A : Option Addr) (n c : Nat) (l : List Int) (h : Sl w A n c l) : Calls Tryd.prog 44 #[.slice A n c] w (OfRet l w) := by
  by_cases hn : n = 256
  · subst hn
    obtain ⟨g, rfl⟩ := h.adr rfl
    have h0 : 0 < l.length := by have := h.len; omega
    have hx := h.byt _ (List.getElem_mem h0)
    exact of_at w g c l[0].toNat l ⟨h.rd, h.cap, h.top, h.len, h.byt, by rw [List.getElem?_eq_getElem h0]; congr 1; omega⟩
  · exact of_len w A n c l h.len hn

theorem slotsN_front {s : List Slot} {i N : Nat} (h : i ≤ N) (hN : N ≤ s.length) : ∃ r, slotsN s N = slotsN s i ++ r := by
  induction N with
  | zero => obtain rfl : i = 0 := by omega
            exact ⟨[], by simp⟩
  | succ N ih =>
    rcases Nat.lt_or_ge i (N + 1) with h1 | h1
    · obtain ⟨r, hr⟩ := ih (by omega) (by omega)
      cases ho : s[N]'(by omega) with
      | none =>
        have h2 : s[N]? = some none := by rw [List.getElem?_eq_getElem (by omega), ho]
        exact ⟨r, by rw [slotsN_no h2, hr]⟩
      | some b =>
        have h2 : s[N]? = some (some b) := by rw [List.getElem?_eq_getElem (by omega), ho]
        exact ⟨r ++ [(N : Int)], by rw [slotsN_yes h2, hr, List.append_assoc]⟩
    · obtain rfl : i = N + 1 := by omega
      exact ⟨[], by simp⟩
theorem slotsN_at {s : List Slot} {i : Nat} {b : List Int} (h : s[i]? = some (some b)) : (slotsN s s.length)[(slotsN s i).length]? = some (i : Int) := by
  have hi : i < s.length := (List.getElem?_eq_some_iff.1 h).1
  obtain ⟨r, hr⟩ := slotsN_front (s := s) (i := i + 1) (N := s.length) (by omega) (Nat.le_refl _)
  rw [hr, slotsN_yes h, List.append_assoc, List.getElem?_append_right (Nat.le_refl _), Nat.sub_self]
  rfl

/-- SameBytes of two that are one, somewhere behind W -/
theorem same_at (W w : World) (hb : Below W.heap.size W w) (A A' : Option Addr) (n c c' : Nat) (l : List Int) (h1 : Rd W W.heap.size A n (cells l)) (h2 : Rd W W.heap.size A' n (cells l)) (hn : n ≤ 140000000000000) :
    Calls Tryd.prog 27 #[.slice A n c, .slice A' n c'] w fun e w' => e = .returned (.bool true) ∧ Below W.heap.size W w' := by
  refine (same_any A A' n n c c' l l w (h1.le hb) (h2.le hb) hn).mono ?_
  rintro e w' ⟨rfl, h3⟩
  exact ⟨by rw [decide_eq_true rfl], below_le hb h3⟩

theorem got_some (s : List Slot) (k : Int) : (getP (some s) k).isSome = takenP s k := by
  simp only [getP]
  split
  · rename_i h; rw [h]; rfl
  · rename_i h; rw [Bool.not_eq_true] at h; rw [h]; rfl
theorem radd_add {s : List Slot} (h : Fit s) (ht : TrimP s) {b : List Int} (hb : IsBytes b) : rputP s (ffP s) b = addP (some s) b := rput_put h ht _ hb
theorem raddK_add {s : List Slot} (h : Fit s) (ht : TrimP s) {b : List Int} (hb : IsBytes b) : raddK s b = addK (some s) b := by
  unfold raddK addK
  rw [radd_add h ht hb]
def AkRel (W : World) (s : List Slot) (n i : Value) (wr : World) : Prop := ∃ k : Nat, k ≤ s.length ∧ i = .int .i64 k ∧ n = .int .i64 ((slotsN s k).length : Nat) ∧ wr = W

end Go.Proofs.YtdnegfjddpdmhaaDoor
