/-
  A disk of the call's own; a write of whatever bytes; what is read is what would last.
-/
import Derived.Test.YtehghjakggdnpaaDkImage
namespace Go.Proofs.Ytehghjakggdnpaa
open Go.RowKit Go.Lib

theorem Blk.rd {w : World} {g n : Nat} {t : TypeId} {xs : List Value} (h : Blk w g t xs.toArray) (hn : xs.length = n) : Rd w w.heap.size (some ⟨g, 0, none⟩) n xs := by
  refine ⟨hn, fun _ => ⟨_, rfl, h.lt, fun j u hu => ?_⟩⟩
  rw [Addr.add_mid, Nat.zero_add]
  exact h.src j u hu


/-- a disk of the call's own: nothing that was there at w0 has turned -/
structure Live (w0 w : World) (g : Nat) (F : Nat → Prop) (s : DS) : Prop where
  d : DiskAt w g F s
  lo : ∀ k, F k → w0.heap.size ≤ k
  b : Below w0.heap.size w0 w
section
variable {w0 w w' : World} {g : Nat} {F : Nat → Prop} {s s' : DS}
theorem Live.step (h : Live w0 w g F s) (hd : DiskAt w' g (Ext F w w') s') (hc : Chg F w w') : Live w0 w' g (Ext F w w') s' :=
  ⟨hd, fun k hk => hk.elim (h.lo k) fun h1 => by have := h.b.size; omega, h.b.trans (hc.below h.lo h.b.size)⟩
theorem Live.below (h : Live w0 w g F s) (hb : Below w.heap.size w w') : Live w0 w' g F s := ⟨h.d.below hb, h.lo, h.b.trans (hb.mono h.b.size)⟩
theorem Live.new (hb0 : Below w0.heap.size w0 w) (hd : DiskAt w' g (Ext Non w w') s) (hb : Below w.heap.size w w') : Live w0 w' g (Ext Non w w') s :=
  ⟨hd, fun k hk => hk.elim (fun h => h.elim) fun h => by have := hb0.size; omega, hb0.trans (hb.mono hb0.size)⟩
theorem Live.drew (h : Live w0 w g F s) : Live w0 w.drew g F s := ⟨h.d, h.lo, h.b.drew⟩
end

/-- a write of whatever bytes to whatever sector: what is answered, and what the disk is then -/
def DS.tryWrite (s : DS) (k : Int) (b : List Int) : Int × DS := if 0 ≤ k ∧ k < s.last.length then (if b.length = 64 then (0, s.write k.toNat b) else (41, s)) else (40, s)
theorem tryWrite_last (s : DS) (k : Int) (b : List Int) : (s.tryWrite k b).2.last = s.last := by unfold DS.tryWrite; split <;> (try split) <;> rfl
theorem tryWrite_few (s : DS) (k : Int) (b : List Int) : (s.tryWrite k b).2.wr.length ≤ s.wr.length + 1 := by unfold DS.tryWrite; split <;> (try split) <;> simp [DS.write]
def TryRet (g : Nat) (F : Nat → Prop) (s : DS) (k : Int) (b : List Int) (w : World) (e : Ending) (w' : World) : Prop :=
  e = .returned (.int .i64 (s.tryWrite k b).1) ∧ DiskAt w' g (Ext F w w') (s.tryWrite k b).2 ∧ Chg F w w'
theorem DiskAt.ext {w : World} {g : Nat} {F G : Nat → Prop} {s : DS} (h : DiskAt w g F s) (hF : ∀ k, F k → G k) (hG : ∀ k, G k → k < w.heap.size) : DiskAt w g G s := by
  obtain ⟨gl, gm, W, h1, h2, h3, h4, f1, f2, f3, f4, f5, h6⟩ := h
  exact ⟨gl, gm, W, h1, h2, h3, h4, hF _ f1, hF _ f2, hF _ f3, fun k hk => hF _ (f4 k hk), hG, h6⟩
theorem DiskAt.same_ext {w : World} {g : Nat} {F : Nat → Prop} {s : DS} (h : DiskAt w g F s) : DiskAt w g (Ext F w w) s :=
  h.ext (fun _ hk => .inl hk) fun k hk => hk.elim (h.foot k) fun h => h.2
theorem write_any {w : World} {g : Nat} {F : Nat → Prop} {s : DS} (h : DiskAt w g F s) (k : Int) (A : Option Addr) (n c : Nat) (b : List Int) (hr : Rd w w.heap.size A n (cells b)) (few : s.wr.length < 1000000) :
    Calls Try.prog 58 #[.pointer (some ⟨g, 0, none⟩), .int .i64 k, .slice A n c] w (TryRet g F s k b w) := by
  have hn : b.length = n := by have := hr.len; rwa [cells_len] at this
  subst hn
  by_cases hk : 0 ≤ k ∧ k < s.last.length
  · obtain ⟨m, rfl⟩ : ∃ m : Nat, k = m := ⟨k.toNat, by omega⟩
    have hm : m < s.last.length := by omega
    by_cases hb : b.length = 64
    · rw [hb] at hr ⊢
      refine (write_yes h m hm A c b hr few).mono fun e w' ⟨h1, h2, h3⟩ => ?_
      have e1 : s.tryWrite (m : Int) b = (0, s.write m b) := by unfold DS.tryWrite; rw [if_pos hk, if_pos hb]; rfl
      unfold TryRet
      rw [e1]
      exact ⟨h1, h2, h3⟩
    · refine (write_len h m hm A b.length c hb).mono fun e w' ⟨h1, h2⟩ => ?_
      have e1 : s.tryWrite (m : Int) b = (41, s) := by unfold DS.tryWrite; rw [if_pos hk, if_neg hb]
      unfold TryRet
      rw [e1]
      subst h2
      exact ⟨h1, h.same_ext, Chg.refl _ _⟩
  · refine (write_no h k hk A b.length c).mono fun e w' ⟨h1, h2⟩ => ?_
    have e1 : s.tryWrite k b = (40, s) := by unfold DS.tryWrite; rw [if_neg hk]
    unfold TryRet
    rw [e1]
    subst h2
    exact ⟨h1, h.same_ext, Chg.refl _ _⟩

/-- what is read is what would last -/
theorem read_lay (L : List (List Int)) (wr : List (Nat × List Int)) {k : Nat} (hk : k < L.length) : (⟨L, wr⟩ : DS).read k = (lay L wr).getD k [] := by
  refine snoc_ind (P := fun wr => (⟨L, wr⟩ : DS).read k = (lay L wr).getD k []) rfl ?_ wr
  intro l p ih
  unfold DS.read at ih ⊢
  simp only [lastWr_snoc, lay_snoc] at ih ⊢
  by_cases hp : p.1 = k
  · rw [if_pos hp, Option.getD_some, getD_lt (by rw [List.length_set, lay_len]; exact hk)]
    subst hp
    rw [List.getElem_set_self]
  · rw [if_neg hp, ih, getD_lt (by rw [lay_len]; exact hk), getD_lt (by rw [List.length_set, lay_len]; exact hk), List.getElem_set_ne hp]

end Go.Proofs.Ytehghjakggdnpaa
