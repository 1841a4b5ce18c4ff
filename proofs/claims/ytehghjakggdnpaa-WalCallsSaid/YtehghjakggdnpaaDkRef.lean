/-
  The document's disk in memory; the contracts of its Load and New.
-/
import Derived.Test.YtehghjakggdnpaaDkLive
namespace Go.Proofs.Ytehghjakggdnpaa
open Go.RowKit Go.Lib

/-- v is a slice of the bytes b, in a block of G -/
def DataIn (w : World) (G : Nat → Prop) (v : Value) (b : List Int) : Prop := w.ownsRow 0 5 1 v b.length (cells b) ∧ ∀ k, v.ownBlock = some k → G k
/-- the rows of the writes: a number, and a slice -/
def wrow (wr : List (Nat × List Int)) (vs : List Value) : List (List Value) := (wr.zip vs).map fun x => [.int .i64 x.1.1, x.2]
/-- each slice has its bytes -/
def AllIn (w : World) (G : Nat → Prop) (vs : List Value) (bs : List (List Int)) : Prop := vs.length = bs.length ∧ ∀ (i : Nat) (v : Value) (b : List Int), vs[i]? = some v → bs[i]? = some b → DataIn w G v b

/-- block g is the document's disk that is s; its blocks are among G -/
def RefAt (w : World) (g : Nat) (G : Nat → Prop) (s : DS) : Prop :=
  ∃ L W lv wv, Blk w g 58 #[L, W] ∧ w.ownsRow 0 38 1 L s.last.length lv ∧ AllIn w G lv s.last ∧ w.ownsRow 0 89 2 W s.wr.length (Rows' (wrow s.wr wv)) ∧ AllIn w G wv (s.wr.map (·.2)) ∧
    G g ∧ (∀ k, L.ownBlock = some k → G k) ∧ (∀ k, W.ownBlock = some k → G k) ∧ (∀ k, G k → k < w.heap.size) ∧ s.Ok

section
variable {w w' : World} {g : Nat} {F G : Nat → Prop} {s : DS} {v : Value} {b : List Int} {vs : List Value} {bs : List (List Int)}
theorem DataIn.keep (h : DataIn w G v b) (hk : ∀ k, G k → w'.heap[k]? = w.heap[k]?) : DataIn w' G v b := ⟨own_keep h.1 fun k hv => hk k (h.2 k hv), h.2⟩
theorem DataIn.mono (h : DataIn w F v b) (hF : ∀ k, F k → G k) : DataIn w G v b := ⟨h.1, fun k hk => hF k (h.2 k hk)⟩
theorem AllIn.keep (h : AllIn w G vs bs) (hk : ∀ k, G k → w'.heap[k]? = w.heap[k]?) : AllIn w' G vs bs := ⟨h.1, fun i v b h1 h2 => (h.2 i v b h1 h2).keep hk⟩
theorem AllIn.mono (h : AllIn w F vs bs) (hF : ∀ k, F k → G k) : AllIn w G vs bs := ⟨h.1, fun i v b h1 h2 => (h.2 i v b h1 h2).mono hF⟩
theorem AllIn.nil (w : World) (G : Nat → Prop) : AllIn w G [] [] := ⟨rfl, fun i v b h => by simp at h⟩
theorem AllIn.snoc (h : AllIn w G vs bs) (hv : DataIn w G v b) : AllIn w G (vs ++ [v]) (bs ++ [b]) := by
  refine ⟨by simp [h.1], fun i u c h1 h2 => ?_⟩
  by_cases hi : i < vs.length
  · rw [List.getElem?_append_left hi] at h1
    rw [List.getElem?_append_left (by rw [← h.1]; exact hi)] at h2
    exact h.2 i u c h1 h2
  · rw [List.getElem?_append_right (by omega)] at h1
    rw [List.getElem?_append_right (by rw [← h.1]; omega)] at h2
    have e : i - vs.length = 0 := by
      have := (List.getElem?_eq_some_iff.1 h1).1
      simp at this; omega
    rw [e] at h1
    rw [← h.1, e] at h2
    simp at h1 h2
    subst h1 h2
    exact hv
theorem AllIn.set (h : AllIn w G vs bs) (hv : DataIn w G v b) (j : Nat) : AllIn w G (vs.set j v) (bs.set j b) := by
  refine ⟨by simp [h.1], fun i u c h1 h2 => ?_⟩
  by_cases hi : i = j
  · subst hi
    have hl : i < vs.length := by
      have := (List.getElem?_eq_some_iff.1 h1).1
      rwa [List.length_set] at this
    rw [List.getElem?_set_self hl] at h1
    rw [List.getElem?_set_self (by rw [← h.1]; exact hl)] at h2
    injection h1 with h1
    injection h2 with h2
    subst h1 h2
    exact hv
  · rw [List.getElem?_set_ne (Ne.symm hi)] at h1
    rw [List.getElem?_set_ne (Ne.symm hi)] at h2
    exact h.2 i u c h1 h2
theorem AllIn.at_ (h : AllIn w G vs bs) {i : Nat} (hi : i < bs.length) : ∃ v, vs[i]? = some v ∧ DataIn w G v bs[i] :=
  ⟨vs[i]'(by rw [h.1]; exact hi), List.getElem?_eq_getElem _, h.2 i _ _ (List.getElem?_eq_getElem _) (List.getElem?_eq_getElem hi)⟩
/-- a slice of 64 bytes, its shape -/
theorem DataIn.form (h : DataIn w G v b) (hb : b.length = 64) : ∃ q c, v = .slice (some ⟨q, 0, none⟩) 64 c ∧ G q ∧ q < w.heap.size ∧ Rd w w.heap.size (some ⟨q, 0, none⟩) 64 (cells b) ∧ (∃ cur, Blk w q 5 cur) ∧ 64 ≤ c ∧ c ≤ maxLen := by
  obtain ⟨h1, h2⟩ := h
  rw [hb] at h1
  obtain ⟨q, c, rfl, _, hq⟩ := h1.form (by omega)
  obtain ⟨A, c', e, hc1, hc2⟩ := own_shape h1
  cases e
  exact ⟨q, c, rfl, h2 q rfl, hq, Rd.of_own h1, own_blk h1 q rfl, hc1, hc2⟩

theorem RefAt.ok (h : RefAt w g G s) : s.Ok := by obtain ⟨_, _, _, _, _, _, _, _, _, _, _, _, _, h⟩ := h; exact h
theorem RefAt.foot (h : RefAt w g G s) : ∀ k, G k → k < w.heap.size := by obtain ⟨_, _, _, _, _, _, _, _, _, _, _, _, h, _⟩ := h; exact h
theorem RefAt.keep (h : RefAt w g G s) (hk : ∀ k, G k → w'.heap[k]? = w.heap[k]?) (hs : w.heap.size ≤ w'.heap.size) : RefAt w' g G s := by
  obtain ⟨L, W, lv, wv, h1, h2, h3, h4, h5, f1, f2, f3, f4, h6⟩ := h
  exact ⟨L, W, lv, wv, (hk g f1).trans h1, own_keep h2 fun k hv => hk k (f2 k hv), h3.keep hk, own_keep h4 fun k hv => hk k (f3 k hv), h5.keep hk, f1, f2, f3, fun k hf => Nat.lt_of_lt_of_le (f4 k hf) hs, h6⟩
theorem RefAt.chg (h : RefAt w g G s) (hc : Chg F w w') (hn : ∀ k, G k → ¬ F k) : RefAt w' g G s := h.keep (fun k hf => hc.block k (h.foot k hf) (hn k hf)) hc.size
theorem RefAt.below (h : RefAt w g G s) (hb : Below w.heap.size w w') : RefAt w' g G s := h.keep (fun k hf => hb.block k (h.foot k hf)) hb.size
theorem RefAt.lt (h : RefAt w g G s) : g < w.heap.size := by obtain ⟨_, _, _, _, h1, _⟩ := h; exact h1.lt
end

set_option maxRecDepth 100000 in
theorem refLoad_no (A : Option Addr) (n c : Nat) (w : World) (m : Int) (h : m < 1 ∨ 65536 < m) :
    Calls Try.prog 35 #[.slice A n c, .int .i64 m] w fun e w' => e = .returned (.tuple #[.pointer none, .int .i64 41]) ∧ w = w' := by
  rcases h with h | h
  · go_enter Try.func35, Try.ntmps35
    go_wp2
    go_ret2
    exact ⟨rfl, rfl⟩
  · have h' : ¬ m < 1 := by omega
    go_enter Try.func35, Try.ntmps35
    go_wp2
    go_ret2
    exact ⟨rfl, rfl⟩

set_option maxRecDepth 100000 in
theorem refNew_no (w : World) (m : Int) (h : m < 1 ∨ 65536 < m) :
    Calls Try.prog 11 #[.int .i64 m] w fun e w' => e = .returned (.tuple #[.pointer none, .int .i64 41]) ∧ w = w' := by
  go_enter Try.func11, Try.ntmps11
  go_wp2_with (go_at_call 35; refine (refLoad_no _ _ _ _ m h).mono ?_; rintro e w' ⟨rfl, rfl⟩)
  go_ret2
  exact ⟨rfl, rfl⟩

theorem Try.info38 : (Try.prog.info? 38).map (fun i => (i.zero, i.size, i.bytes)) = some (some (.slice none 0 0), 1, 24) := by kernel_rfl

def RefLoadRet (img : List Int) (m : Nat) (w : World) (e : Ending) (w' : World) : Prop :=
  ∃ g, e = .returned (.tuple #[.pointer (some ⟨g, 0, none⟩), .int .i64 0]) ∧ RefAt w' g (Ext Non w w') ⟨secs img m, []⟩ ∧ Below w.heap.size w w'

theorem pad_cells (l : List Int) : splice zeros64 0 (cells (l.take 64)) = cells (pad l) := by
  unfold splice pad
  rw [cells_append, List.take_zero, List.nil_append, Nat.zero_add, cells_len]
  congr 1
  unfold zeros64
  rw [List.drop_replicate]
  have e : cells (List.replicate (64 - l.length) 0) = List.replicate (64 - l.length) (.int .u8 0) := List.map_replicate
  rw [e, List.length_take]
  congr 1; omega
theorem pad_nil : (cells (pad [])).toArray = zarr := by
  have h := pad_cells []
  rw [← h]
  rfl
theorem secs_take {l : List Int} {m k : Nat} (h : k < m) : (secs l m).take (k + 1) = (secs l m).take k ++ [pad (l.drop (64 * k))] := by
  rw [List.take_succ_eq_append_getElem (by rw [secs_len]; exact h)]
  simp [secs]
theorem own_of_blk {w : World} {g n : Nat} {e : TypeId} {xs : List Value} (h : Blk w g e xs.toArray) (hn : xs.length = n) (hm : n ≤ maxLen) (base : Nat) (hb : base ≤ g) : w.ownsRow base e 1 (.slice (some ⟨g, 0, none⟩) n n) n xs :=
  ⟨by simpa using hn, .inr ⟨g, n, xs.toArray, rfl, hb, h, Nat.le_refl _, hm, by simpa using hn, by simpa using List.take_of_length_le (by omega)⟩⟩

def RefLoadRel (img : List Int) (m : Nat) (w : World) (i : Value) (wr : World) : Prop :=
  ∃ (k : Nat) (L : Value) (lv : List Value), k ≤ m ∧ i = .int .i64 k ∧ Blk wr w.heap.size 58 #[L, .slice none 0 0] ∧ wr.ownsRow w.heap.size 38 1 L k lv ∧ AllIn wr (Ext Non w wr) lv ((secs img m).take k) ∧ Below w.heap.size w wr

set_option maxRecDepth 100000 in
set_option maxHeartbeats 1600000 in
theorem refLoad_any (A : Option Addr) (n c : Nat) (img : List Int) (w : World) (hr : Rd w w.heap.size A n (cells img)) (hnc : n ≤ c) (hcm : c ≤ maxLen) (m : Nat) (h1 : 1 ≤ m) (h2 : m ≤ 65536) :
    Calls Try.prog 35 #[.slice A n c, .int .i64 m] w (RefLoadRet img m w) := by
  obtain ⟨i0, hi, hz0, hz1, hz2⟩ := info_parts Try.info38
  have hmk := make64
  have hm0 : (1 : Int) ≤ (m : Int) := by omega
  have hm1 : (m : Int) ≤ 65536 := by omega
  unfold maxLen at hcm
  have HR := Lib.hid hr
  clear hr
  go_enter Try.func35, Try.ntmps35
  go_wp2
  go_loopw [7] (fun i wr => RefLoadRel img m w i wr) (fun i _ => m - (intOf i).toNat)
  case atStart => exact ⟨0, .slice none 0 0, [], by omega, rfl, Blk.new _ _ _, World.ownsRow_nil _ _ _ _, AllIn.nil _ _, (Below.refl _ _).alloc (Nat.le_refl _) _⟩
  case round =>
    obtain ⟨k, L, lv, hk, rfl, b1, o1, a1, hbel⟩ := hrel
    have c0 := b1.cell 0
    have f0 := b1.frozen 0
    simp only [List.getElem?_toArray, List.getElem?_cons_zero] at c0
    by_cases hlt : k < m
    · have hk0 : (0 : Int) ≤ (k : Int) := Int.natCast_nonneg _
      have hk1 : (k : Int) < (m : Int) := by omega
      have HX := Lib.hid (And.intro b1 (And.intro o1 (And.intro a1 hbel)))
      have hsz := hbel.size
      clear b1 o1 a1 hbel
      by_cases hin : 64 * k < n
      · have hx0 : 0 < n := by omega
        obtain ⟨ad, rfl, hadb, hadc⟩ := HR.out.2 hx0
        have htn : (64 * (k : Int)).toNat = 64 * k := by omega
        have hwp : IntKind.i64.wrap (64 * (k : Int)) = 64 * (k : Int) := IntWalk.i64_in _ (by omega)
        have hlt1 : 64 * (k : Int) < (n : Int) := by omega
        have hcn : ¬ c = 64 * k := by omega
        obtain ⟨cs, hcs⟩ : ∃ cs, cs = cells ((img.drop (64 * k)).take 64) := ⟨_, rfl⟩
        have hil : img.length = n := by have := HR.out.len; rwa [cells_len] at this
        have hcl : cs.length = min 64 (n - 64 * k) := by rw [hcs, cells_len, List.length_take, List.length_drop, hil]
        have hsrc : ∀ j v, cs[j]? = some v → wr.cell? ((ad.add (64 * k)).add j) = some v := by
          intro j v hv
          rw [addr_add, HX.out.2.2.2.cell (by rw [addr_block]; exact hadb)]
          refine hadc (64 * k + j) v ?_
          rw [hcs, cells, List.getElem?_map, List.getElem?_take] at hv
          split at hv
          · rw [cells, List.getElem?_map, ← hv, List.getElem?_drop]
          · cases hv
        have HCS := Lib.hid (And.intro hcs (And.intro hcl hsrc))
        have hadr : (ad.add (64 * k)).block < wr.heap.size := by rw [addr_block]; omega
        clear hcs hcl hsrc hadc hil
        go_wp2_with (refine wpList_copy_chg rfl (.tmp 28) (.tmp 32) 38 38 rfl 5 Try.underlying38 Try.size5 _ _ _ _ _ _ rfl rfl wr.heap.size 0 zeros64 5 ?p1 cs ?p2 ?p3 ?p4 ?p5 ?_)
        case p1 => exact Blk.new _ _ _
        case p2 => rw [HCS.out.2.1]; exact Nat.min_comm _ _
        case p3 => exact fun _ j v hv => (World.cell?_alloc_lt wr _ _ (by rw [addr_block]; exact hadr)).trans (HCS.out.2.2 j v hv)
        case p4 => have := HCS.out.2.1; rw [zeros64_len]; omega
        case p5 => rw [HCS.out.1]; exact cells_one _
        intro w3 hb3 hc3 hs3
        have hbel3 : Below wr.heap.size wr w3 := ((Below.refl _ _).alloc (Nat.le_refl _) _).trans (hc3.below (fun q hq => by omega) (by simp))
        have HW := Lib.hid (show Blk w3 wr.heap.size 5 (cells (pad (img.drop (64 * k)))).toArray ∧ Below wr.heap.size wr w3 ∧ w3.heap.size = wr.heap.size + 1 from ⟨by rw [← pad_cells, ← HCS.out.1]; exact hb3, hbel3, by rw [hs3]⟩)
        clear hb3 hc3 hs3 hbel3 HCS hadr hcn htn hwp hlt1
        have hs3' : wr.heap.size ≤ w3.heap.size := by have := HW.out.2.2; omega
        have own3 : (w3.alloc (.cells #[.slice (some ⟨wr.heap.size, 0, none⟩) 64 64] 38)).ownsRow w.heap.size 38 1 L k lv := (own_below HX.out.2.1 HW.out.2.1 (Nat.le_refl _)).alloc _
        have blk3 : Blk (w3.alloc (.cells #[.slice (some ⟨wr.heap.size, 0, none⟩) 64 64] 38)) w.heap.size 58 #[L, .slice none 0 0] := (HX.out.1.below HW.out.2.1 HX.out.1.lt).alloc _
        have hLg := dkown_ne own3 blk3 (by decide)
        have c3 : w3.cell? ⟨w.heap.size, 0, none⟩ = some L := by rw [HW.out.2.1.cell (by have := HX.out.1.lt; exact this)]; exact c0
        have H3 := Lib.hid (And.intro own3 (And.intro blk3 hLg))
        clear own3 blk3 hLg
        go_wp2_with (refine wpList_append_lies _ rfl (.tmp 38) (.tmp 40) 39 rfl w.heap.size 38 i0 _ 1 24 Try.underlying39 hi hz0 hz1 hz2 rfl (by decide) L k lv rfl H3.out.1 ⟨w3.heap.size, 0, none⟩ 1 1 [.slice (some ⟨wr.heap.size, 0, none⟩) 64 64] rfl rfl ?x1 ?x2 (by decide) ?x3 ?x4 ?x5 (w3.heap.size + 1) ?x6 ?_)
        case x1 => exact World.news_of_block (cs := #[.slice (some ⟨wr.heap.size, 0, none⟩) 64 64]) (t := 38) (fr := (0, 0)) (heap_alloc_new w3 _)
        case x2 => intro u hu; simp at hu; subst hu; rfl
        case x3 => simp [maxLen]; omega
        case x4 => omega
        case x5 => simp; omega
        case x6 => simp
        intro gg cap w4 own4 hgrow hat hlt4
        have b4 := H3.out.2.1.grown hgrow H3.out.2.2
        have d0 := b4.cell 0
        have e0 := b4.frozen 0
        simp only [List.getElem?_toArray, List.getElem?_cons_zero] at d0
        have hne : gg ≠ w.heap.size := by
          rcases hat with h | h
          · rintro rfl; exact H3.out.2.2 h
          · omega
        have HF : Hid (RefLoadRel img m w (.int .i64 ((k : Int) + 1)) (w4.setCell ⟨w.heap.size, 0, none⟩ (.slice (some ⟨gg, 0, none⟩) (k + 1) cap))) := by
          have hchg : Chg (fun q => L.ownBlock = some q ∨ q = w.heap.size) wr (w4.setCell ⟨w.heap.size, 0, none⟩ (.slice (some ⟨gg, 0, none⟩) (k + 1) cap)) :=
            ((((Chg.of_below HW.out.2.1).alloc _).grown hgrow fun q hq _ => .inl hq).setCell fun _ => .inr rfl) _
          have hbel' : Below w.heap.size w (w4.setCell ⟨w.heap.size, 0, none⟩ (.slice (some ⟨gg, 0, none⟩) (k + 1) cap)) :=
            HX.out.2.2.2.trans (hchg.below (fun q hq => hq.elim (fun h => (HX.out.2.1.lt q h).1) fun h => by omega) hsz)
          have hs4 := hgrow.size
          refine Lib.hid ⟨k + 1, _, lv ++ [.slice (some ⟨wr.heap.size, 0, none⟩) 64 64], by omega, by go_num, by simpa using b4.put 0 (.slice (some ⟨gg, 0, none⟩) (k + 1) cap), ?_, ?_, hbel'⟩
          · exact own_keep own4 fun q hq => by
              simp only [Value.ownBlock, Option.some.injEq] at hq
              subst hq
              exact Below.heap_setCell _ _ _ _ hne
          · rw [secs_take hlt]
            refine AllIn.snoc ?_ ⟨?_, fun q hq => ?_⟩
            · refine ⟨HX.out.2.2.1.1, fun i v b hv hb => ?_⟩
              obtain ⟨o, f⟩ := HX.out.2.2.1.2 i v b hv hb
              refine ⟨own_chg o hchg fun q hq h => ?_, fun q hq => ?_⟩
              · rcases h with h | h
                · obtain ⟨cu1, bb1⟩ := own_blk o q hq
                  obtain ⟨cu2, bb2⟩ := own_blk HX.out.2.1 q h
                  exact bb1.ne bb2 (by decide) rfl
                · obtain ⟨cu1, bb1⟩ := own_blk o q hq
                  exact bb1.ne HX.out.1 (by decide) h
              · rcases f q hq with h | h
                · exact .inl h
                · exact .inr ⟨h.1, by have := hchg.size; omega⟩
            · have hb6 : Blk (w4.setCell ⟨w.heap.size, 0, none⟩ (.slice (some ⟨gg, 0, none⟩) (k + 1) cap)) wr.heap.size 5 (cells (pad (img.drop (64 * k)))).toArray := by
                have q1 := (HW.out.1.alloc (.cells #[.slice (some ⟨wr.heap.size, 0, none⟩) 64 64] 38)).grown hgrow (fun h => by have := (HX.out.2.1.lt _ h).2; omega)
                exact q1.far (by have := HX.out.1.lt; simp; omega) _
              have hpl : (pad (img.drop (64 * k))).length = 64 := pad_len _
              rw [hpl]
              exact own_of_blk hb6 (by rw [cells_len, hpl]) (by simp [maxLen]) 0 (Nat.zero_le _)
            · simp only [Value.ownBlock, Option.some.injEq] at hq
              subst hq
              refine .inr ⟨hsz, ?_⟩
              simp [World.setCell] at hs4 ⊢
              omega
        clear own4 hgrow hat hlt4 b4 H3
        go_wp2
        go_roundw
        case rel => exact HF.out
        case measure => simp [intOf]; omega
      · have hwp : IntKind.i64.wrap (64 * (k : Int)) = 64 * (k : Int) := IntWalk.i64_in _ (by omega)
        have hlt1 : ¬ (64 * (k : Int) < (n : Int)) := by omega
        have hil : img.length = n := by have := HR.out.len; rwa [cells_len] at this
        have HW := Lib.hid (show Blk (wr.alloc (.cells zarr 5)) wr.heap.size 5 (cells (pad (img.drop (64 * k)))).toArray ∧ Below wr.heap.size wr (wr.alloc (.cells zarr 5)) ∧ (wr.alloc (.cells zarr 5)).heap.size = wr.heap.size + 1 from ⟨by
          rw [List.drop_eq_nil_of_le (by omega), pad_nil]; exact Blk.new _ _ _, (Below.refl _ _).alloc (Nat.le_refl _) _, by simp⟩)
        clear hil
        skip
        have own3 : ((wr.alloc (.cells zarr 5)).alloc (.cells #[.slice (some ⟨wr.heap.size, 0, none⟩) 64 64] 38)).ownsRow w.heap.size 38 1 L k lv := (own_below HX.out.2.1 HW.out.2.1 (Nat.le_refl _)).alloc _
        have blk3 : Blk ((wr.alloc (.cells zarr 5)).alloc (.cells #[.slice (some ⟨wr.heap.size, 0, none⟩) 64 64] 38)) w.heap.size 58 #[L, .slice none 0 0] := (HX.out.1.below HW.out.2.1 HX.out.1.lt).alloc _
        have hLg := dkown_ne own3 blk3 (by decide)
        have c3 : (wr.alloc (.cells zarr 5)).cell? ⟨w.heap.size, 0, none⟩ = some L := by rw [HW.out.2.1.cell (by have := HX.out.1.lt; exact this)]; exact c0
        have H3 := Lib.hid (And.intro own3 (And.intro blk3 hLg))
        clear own3 blk3 hLg
        go_wp2_with (refine wpList_append_lies _ rfl (.tmp 38) (.tmp 40) 39 rfl w.heap.size 38 i0 _ 1 24 Try.underlying39 hi hz0 hz1 hz2 rfl (by decide) L k lv rfl H3.out.1 ⟨wr.heap.size + 1, 0, none⟩ 1 1 [.slice (some ⟨wr.heap.size, 0, none⟩) 64 64] rfl rfl ?z1 ?z2 (by decide) ?z3 ?z4 ?z5 (wr.heap.size + 1 + 1) ?z6 ?_)
        case z2 => rfl
        case z3 => simp [maxLen]; omega
        case z4 => omega
        case z5 => omega
        intro gg cap w4 own4 hgrow hat hlt4
        have b4 := H3.out.2.1.grown hgrow H3.out.2.2
        have d0 := b4.cell 0
        have e0 := b4.frozen 0
        simp only [List.getElem?_toArray, List.getElem?_cons_zero] at d0
        have hne : gg ≠ w.heap.size := by
          rcases hat with h | h
          · rintro rfl; exact H3.out.2.2 h
          · omega
        have HF : Hid (RefLoadRel img m w (.int .i64 ((k : Int) + 1)) (w4.setCell ⟨w.heap.size, 0, none⟩ (.slice (some ⟨gg, 0, none⟩) (k + 1) cap))) := by
          have hchg : Chg (fun q => L.ownBlock = some q ∨ q = w.heap.size) wr (w4.setCell ⟨w.heap.size, 0, none⟩ (.slice (some ⟨gg, 0, none⟩) (k + 1) cap)) :=
            ((((Chg.of_below HW.out.2.1).alloc _).grown hgrow fun q hq _ => .inl hq).setCell fun _ => .inr rfl) _
          have hbel' : Below w.heap.size w (w4.setCell ⟨w.heap.size, 0, none⟩ (.slice (some ⟨gg, 0, none⟩) (k + 1) cap)) :=
            HX.out.2.2.2.trans (hchg.below (fun q hq => hq.elim (fun h => (HX.out.2.1.lt q h).1) fun h => by omega) hsz)
          have hs4 := hgrow.size
          refine Lib.hid ⟨k + 1, _, lv ++ [.slice (some ⟨wr.heap.size, 0, none⟩) 64 64], by omega, by go_num, by simpa using b4.put 0 (.slice (some ⟨gg, 0, none⟩) (k + 1) cap), ?_, ?_, hbel'⟩
          · exact own_keep own4 fun q hq => by
              simp only [Value.ownBlock, Option.some.injEq] at hq
              subst hq
              exact Below.heap_setCell _ _ _ _ hne
          · rw [secs_take hlt]
            refine AllIn.snoc ?_ ⟨?_, fun q hq => ?_⟩
            · refine ⟨HX.out.2.2.1.1, fun i v b hv hb => ?_⟩
              obtain ⟨o, f⟩ := HX.out.2.2.1.2 i v b hv hb
              refine ⟨own_chg o hchg fun q hq h => ?_, fun q hq => ?_⟩
              · rcases h with h | h
                · obtain ⟨cu1, bb1⟩ := own_blk o q hq
                  obtain ⟨cu2, bb2⟩ := own_blk HX.out.2.1 q h
                  exact bb1.ne bb2 (by decide) rfl
                · obtain ⟨cu1, bb1⟩ := own_blk o q hq
                  exact bb1.ne HX.out.1 (by decide) h
              · rcases f q hq with h | h
                · exact .inl h
                · exact .inr ⟨h.1, by have := hchg.size; omega⟩
            · have hb6 : Blk (w4.setCell ⟨w.heap.size, 0, none⟩ (.slice (some ⟨gg, 0, none⟩) (k + 1) cap)) wr.heap.size 5 (cells (pad (img.drop (64 * k)))).toArray := by
                have q1 := (HW.out.1.alloc (.cells #[.slice (some ⟨wr.heap.size, 0, none⟩) 64 64] 38)).grown hgrow (fun h => by have := (HX.out.2.1.lt _ h).2; omega)
                exact q1.far (by have := HX.out.1.lt; simp; omega) _
              have hpl : (pad (img.drop (64 * k))).length = 64 := pad_len _
              rw [hpl]
              exact own_of_blk hb6 (by rw [cells_len, hpl]) (by simp [maxLen]) 0 (Nat.zero_le _)
            · simp only [Value.ownBlock, Option.some.injEq] at hq
              subst hq
              refine .inr ⟨hsz, ?_⟩
              simp [World.setCell] at hs4 ⊢
              omega
        clear own4 hgrow hat hlt4 b4 H3
        go_wp2
        go_roundw
        case rel => exact HF.out
        case measure => simp [intOf]; omega
    · have hkm : k = m := by omega
      have HF : Hid (RefLoadRet img m w (.returned (.tuple #[.pointer (some ⟨w.heap.size, 0, none⟩), .int .i64 0])) wr) := by
        have hlt := b1.lt
        rw [hkm] at o1 a1
        have htk : (secs img m).take m = secs img m := List.take_of_length_le (by rw [secs_len]; omega)
        rw [htk] at a1
        refine Lib.hid ⟨w.heap.size, rfl, ⟨L, .slice none 0 0, lv, [], b1, ?_, a1, World.ownsRow_nil _ _ _ _, AllIn.nil _ _, .inr ⟨Nat.le_refl _, hlt⟩, ?_, fun q hq => (by cases hq), ?_, ?_⟩, hbel⟩
        · rw [secs_len]; exact own_base o1 (Nat.zero_le _)
        · exact fun q hq => .inr (o1.lt q hq)
        · exact fun q hq => hq.elim (fun h => h.elim) fun h => h.2
        · exact ⟨by simp [secs_len, h1], by simp [secs_len, h2], secs_all _ _, fun p hp => (by simp at hp), by simp⟩
      clear hkm b1 o1 a1 hbel
      go_wp2
      go_ret2
      exact HF.out

set_option maxRecDepth 100000 in
theorem refNew_any (w : World) (m : Nat) (h1 : 1 ≤ m) (h2 : m ≤ 65536) :
    Calls Try.prog 11 #[.int .i64 m] w (RefLoadRet [] m w) := by
  go_enter Try.func11, Try.ntmps11
  go_wp2_with (go_at_call 35; refine (refLoad_any none 0 0 [] _ Rd.empty (Nat.le_refl _) (by simp [maxLen]) m h1 h2).mono ?_; rintro e w' ⟨g, rfl, hd, hb⟩)
  have HD := Lib.hid (And.intro hd hb)
  clear hd hb
  go_ret2
  exact ⟨g, rfl, HD.out⟩

end Go.Proofs.Ytehghjakggdnpaa
