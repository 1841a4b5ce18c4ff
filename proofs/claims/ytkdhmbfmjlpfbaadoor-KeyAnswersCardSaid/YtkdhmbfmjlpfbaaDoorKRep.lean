/-
  What strings.ReplaceAll and strings.Cut come to at a text's key bytes. Nothing of the program in it.
-/
import Derived.Test.YtkdhmbfmjlpfbaaDoorKM
namespace Go.Proofs.YtkdhmbfmjlpfbaaDoor
open Go.RowKit Go.Lib

section
variable {a : UInt8} {o new : List UInt8}
def rA (old new s : List UInt8) : List UInt8 := replaceK old new (count s old) s
theorem index_cons {c : UInt8} {l sub : List UInt8} (h : sub.isPrefixOf (c :: l) = false) : index (c :: l) sub = if index l sub == -1 then -1 else index l sub + 1 := by
  conv => lhs; unfold index
  rw [h]; rfl
theorem pre_ne {c : UInt8} {l : List UInt8} (h : c ≠ a) : (a :: o).isPrefixOf (c :: l) = false := by
  simp [List.isPrefixOf]; exact fun e => absurd e.symm h
theorem rA_nil : rA (a :: o) new [] = [] := by
  have : index [] (a :: o) = -1 := rfl
  unfold rA
  rw [count_miss this]; rfl
theorem rA_cons {c : UInt8} {l : List UInt8} (h : c ≠ a) : rA (a :: o) new (c :: l) = c :: rA (a :: o) new l := by
  have hi := index_cons (pre_ne (o := o) (l := l) h)
  unfold rA
  have hge := index_ge l (a :: o)
  by_cases hm : index l (a :: o) = -1
  · rw [hm] at hi
    rw [count_miss hm, count_miss hi]; rfl
  · obtain ⟨i, e⟩ : ∃ i : Nat, index l (a :: o) = i := ⟨(index l (a :: o)).toNat, by omega⟩
    have e2 : index (c :: l) (a :: o) = ((i + 1 : Nat) : Int) := by
      rw [hi, e, if_neg (by simp)]; rfl
    rw [count_hit (by simp) e, count_hit (by simp) e2, show (c :: l).drop (i + 1 + (a :: o).length) = l.drop (i + (a :: o).length) by rw [show i + 1 + (a :: o).length = (i + (a :: o).length) + 1 by omega]; rfl, Nat.add_comm 1]
    rw [replaceK_hit _ _ _ _ _ e, replaceK_hit _ _ _ _ _ e2, show (c :: l).drop (i + 1 + (a :: o).length) = l.drop (i + (a :: o).length) by rw [show i + 1 + (a :: o).length = (i + (a :: o).length) + 1 by omega]; rfl]
    rfl
theorem rA_old {l : List UInt8} : rA (a :: o) new (a :: o ++ l) = new ++ rA (a :: o) new l := by
  have e : index (a :: o ++ l) (a :: o) = ((0 : Nat) : Int) := index_first (i := 0) (Nat.zero_le _) (by simp [occAt]) (fun _ h => absurd h (Nat.not_lt_zero _))
  have hd : (a :: o ++ l).drop (0 + (a :: o).length) = l := by simp
  unfold rA
  rw [count_hit (by simp) e, hd, Nat.add_comm 1, replaceK_hit _ _ _ _ _ e, hd]
  rfl
theorem replaceAll_rA (old new s : List UInt8) (h : (old == new) = false) : replaceAll s old new = rA old new s := by
  unfold replaceAll replace replaceNum
  rw [h, if_neg Bool.false_ne_true, if_pos (Or.inl (by decide))]; rfl
end

def escU : List UInt8 → List UInt8
  | [] => []
  | x :: l => if x = 0 then 0 :: 255 :: escU l else x :: escU l
theorem rep_esc (s : List UInt8) : replaceAll s [0] [0, 255] = escU s := by
  rw [replaceAll_rA _ _ _ (by decide)]
  induction s with
  | nil => exact rA_nil
  | cons x l ih =>
    unfold escU
    by_cases h : x = 0
    · subst h
      rw [if_pos rfl, show (0 :: l : List UInt8) = 0 :: [] ++ l from rfl, rA_old, ih]; rfl
    · rw [if_neg h, rA_cons h, ih]
theorem rep_back (t : List UInt8) : replaceAll (escU t) [0, 255] [0] = t := by
  rw [replaceAll_rA _ _ _ (by decide)]
  induction t with
  | nil => exact rA_nil
  | cons x l ih =>
    unfold escU
    by_cases h : x = 0
    · subst h
      rw [if_pos rfl, show (0 :: 255 :: escU l : List UInt8) = 0 :: [255] ++ escU l from rfl, rA_old, ih]; rfl
    · rw [if_neg h, rA_cons h, ih]
theorem index_esc (t r : List UInt8) : index (escU t ++ 0 :: 1 :: r) [0, 1] = ((escU t).length : Int) := by
  induction t with
  | nil => exact index_first (i := 0) (Nat.zero_le _) (by simp [occAt, escU]) (fun _ h => absurd h (Nat.not_lt_zero _))
  | cons x l ih =>
    have step : ∀ (c : UInt8) (m : List UInt8) (k : Nat), ([0, 1] : List UInt8).isPrefixOf (c :: m) = false → index m [0, 1] = (k : Int) → index (c :: m) [0, 1] = ((k + 1 : Nat) : Int) := fun c m k hp hk => by
      rw [index_cons hp, hk, if_neg (by simp)]; rfl
    unfold escU
    by_cases h : x = 0
    · subst h
      rw [if_pos rfl]
      simp only [List.cons_append, List.length_cons]
      exact step _ _ _ (by simp [List.isPrefixOf]) (step _ _ _ (by simp [List.isPrefixOf]) ih)
    · rw [if_neg h]
      simp only [List.cons_append, List.length_cons]
      exact step _ _ _ (pre_ne h) ih
theorem cut_esc (t r : List UInt8) : cut (escU t ++ 0 :: 1 :: r) [0, 1] = (escU t, r, true) := by
  unfold cut
  rw [index_esc, if_pos (by omega)]
  simp

theorem escU_map (l : List UInt8) : (escU l).map (fun b => (b.toNat : Int)) = escB (l.map fun b => (b.toNat : Int)) := by
  induction l with
  | nil => rfl
  | cons x l ih =>
    simp only [escU, List.map_cons, escB]
    by_cases h : x = 0
    · subst h
      simp [ih]
    · have h2 : ¬ (x.toNat : Int) = 0 := fun e => h (by apply UInt8.toNat_inj.1; show x.toNat = 0; omega)
      rw [if_neg h, if_neg h2, List.map_cons, ih]
theorem bytes_arr (l : List UInt8) : bytes ⟨l.toArray⟩ = l.map (fun b => (b.toNat : Int)) := rfl
theorem bytes_data (s : ByteArray) : bytes s = s.data.toList.map (fun b => (b.toNat : Int)) := rfl
/-- a text's key bytes, ahead of their end -/
theorem rep_bytes (s : ByteArray) : bytes ⟨(replaceAll s.data.toList [0] [0, 255]).toArray⟩ = escB (bytes s) := by
  rw [bytes_arr, rep_esc, escU_map, bytes_data]
theorem mapU_inj {a b : List UInt8} (h : a.map (fun b => (b.toNat : Int)) = b.map (fun b => (b.toNat : Int))) : a = b :=
  List.map_inj_right (f := fun b : UInt8 => (b.toNat : Int)) (fun a b hab => UInt8.toNat_inj.1 (by have h2 : ((a.toNat : Nat) : Int) = b.toNat := hab; omega)) |>.1 h
/-- the text of its key bytes, and what is behind them -/
theorem cut_bytes (s t : ByteArray) (r : List Int) (h : bytes s = escB (bytes t) ++ 0 :: 1 :: r) :
    ∃ r', cut s.data.toList [0, 1] = (escU t.data.toList, r', true) ∧ bytes ⟨r'.toArray⟩ = r := by
  have h2 : s.data.toList = escU t.data.toList ++ 0 :: 1 :: s.data.toList.drop ((escU t.data.toList).length + 2) := by
    apply mapU_inj
    rw [List.map_append, escU_map, ← bytes_data, ← bytes_data, h, List.map_cons, List.map_cons, List.map_drop, ← bytes_data, h]
    have e : (escB (bytes t)).length = (escU t.data.toList).length := by rw [bytes_data, ← escU_map, List.length_map]
    rw [← e, List.drop_append]
    simp
  refine ⟨_, by rw [h2]; exact cut_esc _ _, ?_⟩
  rw [bytes_arr, List.map_drop, ← bytes_data, h]
  have e : (escB (bytes t)).length = (escU t.data.toList).length := by rw [bytes_data, ← escU_map, List.length_map]
  rw [← e, List.drop_append]
  simp
end Go.Proofs.YtkdhmbfmjlpfbaaDoor
