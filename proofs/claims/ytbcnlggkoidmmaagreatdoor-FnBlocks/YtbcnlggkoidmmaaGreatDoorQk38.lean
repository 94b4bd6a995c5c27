/-
  The coins as the program has them: a symbol, or none of a pair; the first list sorted by keys; what is taken of each list, from the last to the first. Nothing here speaks of the program.
  Lists of the program's coins in memory. Nothing here speaks of the program but the numbers of its types.
  A list of coins that is sorted in place, by its keys: a coin is a weight and a symbol, two cells; its key holds both. Nothing here speaks of the program.
-/
import Derived.Test.YtbcnlggkoidmmaaGreatDoorQk08
import Derived.Test.YtbcnlggkoidmmaaGreatDoorQk09
import Derived.Test.YtbcnlggkoidmmaaGreatDoorQk10
import Derived.Test.YtbcnlggkoidmmaaGreatDoorQk37
import Derived.Test.YtbcnlggkoidmmaaGreatDoorRows
import Derived.Test.YtbcnlggkoidmmaaGreatDoorQk01
import Derived.Test.YtbcnlggkoidmmaaGreatDoorQk07
import Derived.WalkKit
import Derived.ProofKit
import Derived.Below
import Derived.OwnWalk
import Derived.Sort.Grow
import Derived.Deep.AppendLies
import Derived.Maps.AppendAt
import Derived.Laws.AppendOwnNone
import Derived.Lib.SmallJoins
namespace Go.Proofs.YtbcnlggkoidmmaaGreatDoor
open PackageMath SortMath

/-- The symbol of a coin, -1 of a pair. -/
def sy (c : Coin) : Int := match c.2 with
  | [i] => (i : Int)
  | _ => -1
theorem sy_one (x : Int) (i : Nat) : sy (x, [i]) = (i : Int) := rfl
theorem sy_more {c : Coin} (h : 2 ≤ c.2.length) : sy c = -1 := by
  unfold sy
  split
  · rename_i i e
    rw [e] at h
    simp at h
  · rfl
/-- A coin's key. -/
def key (c : Coin) : Int := c.1 * 1024 + sy c

/-- The coins as they are met, not sorted. -/
def rawL (c : Nat → Int) : Nat → List Coin
  | 0 => []
  | i + 1 => if c i = 0 then rawL c i else rawL c i ++ [(c i, [i])]
theorem raw_length (c : Nat → Int) : ∀ n, (rawL c n).length = posN c n
  | 0 => rfl
  | n + 1 => by
    have h := raw_length c n
    show (if c n = 0 then rawL c n else rawL c n ++ [(c n, [n])]).length = posN c n + (if decide (c n ≠ 0) = true then 1 else 0)
    by_cases e : c n = 0
    · rw [if_pos e, h]; simp [e]
    · rw [if_neg e, List.length_append, h]; simp [e]
theorem raw_mem {c : Nat → Int} : ∀ n z, z ∈ rawL c n → ∃ i, i < n ∧ c i ≠ 0 ∧ z = (c i, [i])
  | 0, z, h => by cases h
  | n + 1, z, h => by
    unfold rawL at h
    by_cases e : c n = 0
    · rw [if_pos e] at h
      obtain ⟨i, h1, h2, h3⟩ := raw_mem n z h
      exact ⟨i, by omega, h2, h3⟩
    · rw [if_neg e] at h
      rcases List.mem_append.mp h with h | h
      · obtain ⟨i, h1, h2, h3⟩ := raw_mem n z h
        exact ⟨i, by omega, h2, h3⟩
      · exact ⟨n, by omega, e, by simpa using h⟩
theorem mem_ins {x z : Coin} : ∀ {l : List Coin}, z = x ∨ z ∈ l → z ∈ ins x l
  | [], h => by simpa [ins] using h
  | y :: l, h => by
    unfold ins
    split
    · rcases h with h | h
      · exact List.mem_cons_of_mem _ (mem_ins (.inl h))
      · rcases List.mem_cons.mp h with h | h
        · rw [h]; exact List.mem_cons_self
        · exact List.mem_cons_of_mem _ (mem_ins (.inr h))
    · rcases h with h | h
      · rw [h]; exact List.mem_cons_self
      · exact List.mem_cons_of_mem _ h
theorem mem_first {c : Nat → Int} : ∀ n i, i < n → c i ≠ 0 → (c i, [i]) ∈ firstL c n
  | 0, i, h, _ => by omega
  | n + 1, i, h, hc => by
    unfold firstL
    by_cases e : i = n
    · subst e
      rw [if_neg hc]
      exact mem_ins (.inl rfl)
    · have := mem_first n i (by omega) hc
      by_cases e2 : c n = 0
      · rw [if_pos e2]; exact this
      · rw [if_neg e2]; exact mem_ins (.inr this)
/-- The keys rise. -/
def KUp (l : List Coin) : Prop := l.Pairwise fun a b => key a < key b
theorem ins_kup {x : Coin} : ∀ {l : List Coin}, KUp l → Asc l → (∀ y ∈ l, 0 ≤ sy y ∧ sy y < sy x) → sy x < 1024 → KUp (ins x l)
  | [], _, _, _, _ => by simp [ins, KUp]
  | y :: l, h, ha, hs, hx => by
    have h' := List.pairwise_cons.mp h
    unfold ins
    split
    · rename_i hle
      refine List.pairwise_cons.mpr ⟨fun z hz => ?_, ins_kup h'.2 ha.2.2 (fun q hq => hs q (List.mem_cons_of_mem _ hq)) hx⟩
      rcases ins_mem x l z hz with rfl | hz
      · have := hs y List.mem_cons_self
        unfold key
        omega
      · exact h'.1 z hz
    · rename_i hle
      refine List.pairwise_cons.mpr ⟨fun z hz => ?_, h⟩
      have hz2 : y.1 ≤ z.1 := by
        rcases List.mem_cons.mp hz with rfl | hz
        · exact Int.le_refl _
        · exact ha.2.1 z hz
      have := hs z hz
      unfold key
      omega
theorem first_kup {c : Nat → Int} : ∀ n, n ≤ 1024 → (∀ i, i < n → 0 ≤ c i) → KUp (firstL c n)
  | 0, _, _ => List.Pairwise.nil
  | n + 1, hn, h => by
    unfold firstL
    have k := first_kup n (by omega) (fun i hi => h i (by omega))
    by_cases e : c n = 0
    · rw [if_pos e]; exact k
    · rw [if_neg e]
      refine ins_kup k (first_asc n (fun i hi => h i (by omega))) (fun y hy => ?_) (by rw [sy_one]; omega)
      obtain ⟨i, h1, _, rfl⟩ := first_mem n y hy
      rw [sy_one, sy_one]
      omega
theorem raw_stb {c : Nat → Int} : ∀ n, (rawL c n).Pairwise fun a b => sy a < sy b
  | 0 => List.Pairwise.nil
  | n + 1 => by
    unfold rawL
    have k := raw_stb (c := c) n
    by_cases e : c n = 0
    · rw [if_pos e]; exact k
    · rw [if_neg e]
      refine List.pairwise_append.mpr ⟨k, List.pairwise_singleton _ _, fun a ha b hb => ?_⟩
      obtain ⟨i, h1, _, rfl⟩ := raw_mem n a ha
      obtain rfl : b = (c n, [n]) := by simpa using hb
      rw [sy_one, sy_one]
      omega

/-- A list's keys, by places. -/
def keyAt (l : List Coin) (i : Nat) : Int := key (l.getD i (0, []))
theorem getD_mem {l : List Coin} {i : Nat} (h : i < l.length) : l.getD i (0, []) ∈ l := by
  rw [List.getD_eq_getElem?_getD, List.getElem?_eq_getElem h]
  exact List.getElem_mem _
theorem mem_getD {l : List Coin} {z : Coin} (h : z ∈ l) : ∃ i, i < l.length ∧ l.getD i (0, []) = z := by
  obtain ⟨i, hi, e⟩ := List.getElem_of_mem h
  refine ⟨i, hi, ?_⟩
  rw [List.getD_eq_getElem?_getD, List.getElem?_eq_getElem hi]
  exact e
theorem key_wt {c : Coin} (h0 : 0 ≤ sy c) (h1 : sy c < 1024) : key c / 1024 = c.1 ∧ key c % 1024 = sy c := by
  unfold key
  omega
theorem raw_key {c : Nat → Int} {n i : Nat} (hn : n ≤ 1024) (hi : i < (rawL c n).length) : keyAt (rawL c n) i / 1024 = ((rawL c n).getD i (0, [])).1 ∧ keyAt (rawL c n) i % 1024 = sy ((rawL c n).getD i (0, [])) := by
  obtain ⟨s, h1, _, e⟩ := raw_mem n _ (getD_mem hi)
  unfold keyAt
  rw [e]
  exact key_wt (by rw [sy_one]; omega) (by rw [sy_one]; omega)
theorem first_key {c : Nat → Int} {n i : Nat} (hn : n ≤ 1024) (hi : i < (firstL c n).length) : keyAt (firstL c n) i / 1024 = ((firstL c n).getD i (0, [])).1 ∧ keyAt (firstL c n) i % 1024 = sy ((firstL c n).getD i (0, [])) := by
  obtain ⟨s, h1, _, e⟩ := first_mem n _ (getD_mem hi)
  unfold keyAt
  rw [e]
  exact key_wt (by rw [sy_one]; omega) (by rw [sy_one]; omega)
theorem first_up {c : Nat → Int} {n : Nat} (hn : n ≤ 1024) (h : ∀ i, i < n → 0 ≤ c i) : Up (keyAt (firstL c n)) 0 (firstL c n).length := by
  intro i j _ h2 h3
  have k := List.pairwise_iff_getElem.mp (first_kup n hn h) i j (by omega) h3 h2
  unfold keyAt
  rw [List.getD_eq_getElem?_getD, List.getD_eq_getElem?_getD, List.getElem?_eq_getElem h3, List.getElem?_eq_getElem (show i < _ by omega)]
  exact k
theorem raw_Stb {c : Nat → Int} {n : Nat} (hn : n ≤ 1024) : Stb (keyAt (rawL c n)) 0 (rawL c n).length := by
  intro i j _ h2 h3
  have k := List.pairwise_iff_getElem.mp (raw_stb (c := c) n) i j (by omega) h3 h2
  have e1 := raw_key (c := c) hn (show i < (rawL c n).length by omega)
  have e2 := raw_key (c := c) hn h3
  rw [List.getD_eq_getElem?_getD, List.getElem?_eq_getElem (show i < (rawL c n).length by omega)] at e1
  rw [List.getD_eq_getElem?_getD, List.getElem?_eq_getElem h3] at e2
  simp only [Option.getD_some] at e1 e2
  omega
/-- Sorted, the coins are those of the first list. -/
theorem raw_sorted {c : Nat → Int} {n : Nat} {f : Nat → Int} (hn : n ≤ 1024) (h : ∀ i, i < n → 0 ≤ c i) (hu : Up f 0 (posN c n)) (ho : Of (keyAt (rawL c n)) f 0 (posN c n)) : ∀ i, i < posN c n → f i = keyAt (firstL c n) i := by
  have hl : (firstL c n).length = posN c n := first_length c n
  refine up_unique hu (by rw [← hl]; exact first_up hn h) (fun i hi => ?_)
  obtain ⟨j, _, hj, e⟩ := ho.1 i (Nat.zero_le _) hi
  rw [← raw_length] at hj
  obtain ⟨s, h1, h2, e2⟩ := raw_mem n _ (getD_mem hj)
  obtain ⟨q, hq, e3⟩ := mem_getD (mem_first n s h1 h2)
  refine ⟨q, by omega, ?_⟩
  rw [e]
  unfold keyAt
  rw [e2, e3]

/-! What is taken. -/
/-- 1 of a pair. -/
def isP : Coin → Int := fun c => if sy c = -1 then 1 else 0
/-- 1 of the symbol q itself. -/
def lf (q : Nat) : Coin → Int := fun c => if sy c = (q : Int) then 1 else 0
theorem sm_congr {φ ψ : Coin → Int} : ∀ {l : List Coin}, (∀ x ∈ l, φ x = ψ x) → sm φ l = sm ψ l
  | [], _ => rfl
  | x :: l, h => by
    show φ x + sm φ l = ψ x + sm ψ l
    rw [h x List.mem_cons_self, sm_congr (fun y hy => h y (List.mem_cons_of_mem _ hy))]
theorem sm_nil (l : List Coin) : sm (fun _ => 0) l = 0 := by
  induction l with
  | nil => rfl
  | cons x l ih => show (0 : Int) + sm (fun _ => 0) l = 0; omega
theorem sm_ones (l : List Coin) : sm (fun _ => 1) l = l.length := by
  induction l with
  | nil => rfl
  | cons x l ih => show (1 : Int) + sm (fun _ => 1) l = _; rw [ih, List.length_cons]; omega
def Leafy (X : List Coin) : Prop := ∀ x ∈ X, ∃ i : Nat, x.2 = [i]
theorem ct_leaf {x : Coin} {i : Nat} (h : x.2 = [i]) (q : Nat) : ct q x = lf q x ∧ isP x = 0 := by
  have e : sy x = (i : Int) := by unfold sy; rw [h]
  unfold ct lf isP
  rw [e, h]
  refine ⟨?_, by rw [if_neg (by omega)]⟩
  by_cases k : i = q
  · subst k; simp
  · rw [if_neg (by omega), List.count_eq_zero.mpr (by simpa using fun h => k h.symm)]
    rfl
theorem lf_pair {x : Coin} (h : 2 ≤ x.2.length) (q : Nat) : lf q x = 0 ∧ isP x = 1 := by
  unfold lf isP
  rw [sy_more h]
  exact ⟨by rw [if_neg (by omega)], by rw [if_pos rfl]⟩
theorem mem_take {l : List Coin} {k : Nat} {x : Coin} (h : x ∈ l.take k) : x ∈ l := List.mem_of_mem_take h
/-- Parts of every level are there. -/
theorem lists_parts {X : List Coin} (h : Leafy X) : ∀ k, ∀ x ∈ lists X k, 1 ≤ x.2.length
  | 0, x, hx => by obtain ⟨i, e⟩ := h x hx; rw [e]; simp
  | k + 1, x, hx => by
    rcases merge_mem X (pairs (lists X k)) x hx with hx | hx
    · obtain ⟨i, e⟩ := h x hx; rw [e]; simp
    · obtain ⟨a, b, ha, hb, rfl⟩ := pairs_mem _ _ hx
      have := lists_parts h k a ha
      show 1 ≤ (a.2 ++ b.2).length
      rw [List.length_append]
      omega
theorem pair_parts {X : List Coin} (h : Leafy X) (k : Nat) : ∀ x ∈ pairs (lists X k), 2 ≤ x.2.length := by
  intro x hx
  obtain ⟨a, b, ha, hb, rfl⟩ := pairs_mem _ _ hx
  have h1 := lists_parts h k a ha
  have h2 := lists_parts h k b hb
  show 2 ≤ (a.2 ++ b.2).length
  rw [List.length_append]
  omega
/-- Of the first t of a list: its symbols, and twice as many of the list ahead as there are pairs. -/
theorem level_step {X : List Coin} (h : Leafy X) (k t : Nat) (ht : t ≤ (lists X (k + 1)).length) : ∃ b : Nat, sm isP ((lists X (k + 1)).take t) = (b : Int) ∧ 2 * b ≤ (lists X k).length ∧ ∀ q, sm (ct q) ((lists X (k + 1)).take t) = sm (lf q) ((lists X (k + 1)).take t) + sm (ct q) ((lists X k).take (2 * b)) := by
  have hlen : (lists X (k + 1)).length = X.length + (pairs (lists X k)).length := merge_length X (pairs (lists X k))
  obtain ⟨a, b, hab, ha, hb, hs, _⟩ := merge_split X (pairs (lists X k)) t (by omega)
  have hp : (pairs (lists X k)).length = (lists X k).length / 2 := pairs_length _
  have e1 : sm isP (X.take a) = 0 := by
    rw [sm_congr (ψ := fun _ => 0) (fun x hx => ?_), sm_nil]
    obtain ⟨i, e⟩ := h x (mem_take hx)
    exact (ct_leaf e 0).2
  have e2 : sm isP ((pairs (lists X k)).take b) = (b : Int) := by
    rw [sm_congr (ψ := fun _ => 1) (fun x hx => (lf_pair (pair_parts h k x (mem_take hx)) 0).2), sm_ones, List.length_take]
    omega
  refine ⟨b, ?_, by omega, fun q => ?_⟩
  · have := hs isP
    show sm isP ((merge X (pairs (lists X k))).take t) = _
    omega
  · have h1 := hs (ct q)
    have h2 := hs (lf q)
    have e3 : sm (lf q) (X.take a) = sm (ct q) (X.take a) := sm_congr (fun x hx => by
      obtain ⟨i, e⟩ := h x (mem_take hx)
      exact (ct_leaf e q).1.symm)
    have e4 : sm (lf q) ((pairs (lists X k)).take b) = 0 := by
      rw [sm_congr (ψ := fun _ => 0) (fun x hx => (lf_pair (pair_parts h k x (mem_take hx)) q).1), sm_nil]
    have e5 := pairs_sm (addi_ct q) (lists X k) b (by omega)
    show sm (ct q) ((merge X (pairs (lists X k))).take t) = sm (lf q) ((merge X (pairs (lists X k))).take t) + _
    omega
theorem level_zero {X : List Coin} (h : Leafy X) (t : Nat) : sm isP (X.take t) = 0 ∧ ∀ q, sm (ct q) (X.take t) = sm (lf q) (X.take t) := by
  constructor
  · rw [sm_congr (ψ := fun _ => 0) (fun x hx => ?_), sm_nil]
    obtain ⟨i, e⟩ := h x (mem_take hx)
    exact (ct_leaf e 0).2
  · intro q
    refine sm_congr (fun x hx => ?_)
    obtain ⟨i, e⟩ := h x (mem_take hx)
    exact (ct_leaf e q).1
theorem first_leafy {c : Nat → Int} {n : Nat} : Leafy (firstL c n) := fun x hx => by
  obtain ⟨i, _, _, e⟩ := first_mem n x hx
  exact ⟨i, by rw [e]⟩
theorem sm_succ (φ : Coin → Int) (l : List Coin) (j : Nat) (hj : j < l.length) : sm φ (l.take (j + 1)) = sm φ (l.take j) + φ (l.getD j (0, [])) := by
  rw [sm_take φ l (j + 1) (by omega), sm_take φ l j (by omega)]
  rfl
/-- Below n, or -1. -/
theorem lists_sy {X : List Coin} {n : Nat} (h : Leafy X) (hs : ∀ x ∈ X, ∀ s ∈ x.2, s < n) (k : Nat) : ∀ x ∈ lists X k, sy x = -1 ∨ (0 ≤ sy x ∧ sy x < (n : Int)) := by
  intro x hx
  by_cases e : 2 ≤ x.2.length
  · exact .inl (sy_more e)
  · have h1 := lists_parts h k x hx
    have h2 := lists_syms hs k x hx
    obtain ⟨i, hi⟩ : ∃ i, x.2 = [i] := by
      match hx2 : x.2 with
      | [] => rw [hx2] at h1; simp at h1
      | [i] => exact ⟨i, rfl⟩
      | i :: j :: l => rw [hx2] at e; simp at e
    right
    have := h2 i (by rw [hi]; simp)
    unfold sy
    rw [hi]
    show (0 : Int) ≤ (i : Int) ∧ (i : Int) < (n : Int)
    omega

end Go.Proofs.YtbcnlggkoidmmaaGreatDoor

namespace Go.Proofs.YtbcnlggkoidmmaaGreatDoor
open Go.RowKit Go.Joins Go.Sort PackageMath

theorem info_coin : (Tryz.prog.info? 180).map (fun i => (i.zero, i.size, i.bytes)) = some (some (.agg #[.int .i64 0, .int .i64 0]), 2, 16) := by kernel_rfl

/-- The cells of coins. -/
def ccells : List Coin → List Value
  | [] => []
  | c :: l => .int .i64 c.1 :: .int .i64 (sy c) :: ccells l
theorem ccells_length : ∀ l : List Coin, (ccells l).length = l.length * 2
  | [] => rfl
  | c :: l => by
    show (ccells l).length + 1 + 1 = (l.length + 1) * 2
    rw [ccells_length l]
    omega
theorem ccells_app : ∀ xs ys : List Coin, ccells (xs ++ ys) = ccells xs ++ ccells ys
  | [], ys => rfl
  | c :: l, ys => by
    show Value.int .i64 c.1 :: .int .i64 (sy c) :: ccells (l ++ ys) = Value.int .i64 c.1 :: .int .i64 (sy c) :: (ccells l ++ ccells ys)
    rw [ccells_app l ys]
theorem ccells_get0 : ∀ (l : List Coin) (i : Nat), i < l.length → (ccells l)[i * 2]? = some (.int .i64 (l.getD i (0, [])).1)
  | [], i, h => by simp at h
  | c :: l, 0, _ => rfl
  | c :: l, i + 1, h => by
    rw [show (i + 1) * 2 = i * 2 + 1 + 1 by omega]
    show (ccells l)[i * 2]? = some (.int .i64 (l.getD i (0, [])).1)
    exact ccells_get0 l i (by simpa using h)
theorem ccells_get1 : ∀ (l : List Coin) (i : Nat), i < l.length → (ccells l)[i * 2 + 1]? = some (.int .i64 (sy (l.getD i (0, []))))
  | [], i, h => by simp at h
  | c :: l, 0, _ => rfl
  | c :: l, i + 1, h => by
    rw [show (i + 1) * 2 + 1 = i * 2 + 1 + 1 + 1 by omega]
    show (ccells l)[i * 2 + 1]? = some (.int .i64 (sy (l.getD i (0, []))))
    exact ccells_get1 l i (by simpa using h)
theorem ccells_one : ∀ (l : List Coin), ∀ u ∈ ccells l, u.oneCell' = true
  | [], u, h => by cases h
  | c :: l, u, h => by
    rcases List.mem_cons.mp h with rfl | h
    · rfl
    · rcases List.mem_cons.mp h with rfl | h
      · rfl
      · exact ccells_one l u h

/-- The coins L lie at a, in a block below B. -/
def CL (w : World) (B : Nat) (a : Option Addr) (L : List Coin) : Prop :=
  L = [] ∨ ∃ g off, a = some ⟨g, off, none⟩ ∧ g < B ∧ g < w.heap.size ∧ ∀ j u, (ccells L)[j]? = some u → w.cell? ⟨g, off + j, none⟩ = some u
/-- A slice of them. -/
def Lst (w : World) (B : Nat) (a : Option Addr) (c : Nat) (L : List Coin) : Prop := L.length ≤ c ∧ (a = none → c = 0) ∧ CL w B a L

section
variable {w w' : World} {B : Nat} {a : Option Addr} {c : Nat} {L : List Coin} {x : Coin}
theorem CL.kept (h : CL w B a L) (hb : Below B w w') : CL w' B a L := by
  rcases h with h | ⟨g, off, ha, h1, h2, h3⟩
  · exact .inl h
  · exact .inr ⟨g, off, ha, h1, Nat.lt_of_lt_of_le h2 hb.size, fun j u hu => (hb.cell (p := ⟨g, off + j, none⟩) h1).trans (h3 j u hu)⟩
theorem Lst.kept (h : Lst w B a c L) (hb : Below B w w') : Lst w' B a c L := ⟨h.1, h.2.1, h.2.2.kept hb⟩
theorem CL.mono {B' : Nat} (h : CL w B a L) (hB : B ≤ B') : CL w B' a L := by
  rcases h with h | ⟨g, off, ha, h1, h2, h3⟩
  · exact .inl h
  · exact .inr ⟨g, off, ha, by omega, h2, h3⟩
theorem Lst.mono {B' : Nat} (h : Lst w B a c L) (hB : B ≤ B') : Lst w B' a c L := ⟨h.1, h.2.1, h.2.2.mono hB⟩
theorem Lst.cons (h : Lst w B a c (x :: L)) : ∃ g off d, a = some ⟨g, off, none⟩ ∧ c = d + 1 ∧ L.length ≤ d ∧ g < B ∧ g < w.heap.size ∧ w.cell? ⟨g, off, none⟩ = some (.int .i64 x.1) ∧ w.cell? ⟨g, off + 1, none⟩ = some (.int .i64 (sy x)) ∧ Lst w B (some ⟨g, off + 2, none⟩) d L := by
  obtain ⟨h1, h2, h3⟩ := h
  rw [List.length_cons] at h1
  rcases h3 with h3 | ⟨g, off, ha, q1, q2, q3⟩
  · cases h3
  · refine ⟨g, off, c - 1, ha, by omega, by omega, q1, q2, q3 0 _ rfl, q3 1 _ rfl, by omega, (fun e => by cases e), .inr ⟨g, off + 2, rfl, q1, q2, fun j u hu => ?_⟩⟩
    have := q3 (j + 2) u hu
    rw [show off + 2 + j = off + (j + 2) by omega]
    exact this
theorem Lst.cell (h : Lst w B a c L) (hp : 0 < L.length) : ∃ g off, a = some ⟨g, off, none⟩ ∧ g < B ∧ g < w.heap.size ∧ ∀ i, i < L.length → w.cell? ⟨g, off + i * 2, none⟩ = some (.int .i64 (L.getD i (0, [])).1) ∧ w.cell? ⟨g, off + (i * 2 + 1), none⟩ = some (.int .i64 (sy (L.getD i (0, [])))) := by
  rcases h.2.2 with h3 | ⟨g, off, ha, q1, q2, q3⟩
  · rw [h3] at hp; simp at hp
  · exact ⟨g, off, ha, q1, q2, fun i hi => ⟨q3 _ _ (ccells_get0 L i hi), q3 _ _ (ccells_get1 L i hi)⟩⟩
theorem Lst.news (h : Lst w B a c L) : ∀ ad, a = some ad → ∀ j u, (ccells L)[j]? = some u → w.cell? (ad.add j) = some u := by
  intro ad e j u hu
  rcases h.2.2 with h3 | ⟨g, off, ha, q1, q2, q3⟩
  · rw [h3] at hu; cases hu
  · rw [ha] at e
    cases e
    rw [Addr.add_lit]
    exact q3 j u hu
/-- What a call owns is such a list. -/
theorem lst_of_own {S n : Nat} {v : Value} (h : w.ownsRow S 180 2 v n (ccells L)) (hn : n = L.length) : ∃ a c, v = .slice a L.length c ∧ Lst w w.heap.size a c L ∧ c ≤ maxLen := by
  subst hn
  rcases h.2 with ⟨rfl, h0⟩ | ⟨g, cap, cur, rfl, hb, hg, hc, hm, hs, ht⟩
  · exact ⟨none, 0, by rw [h0], ⟨by omega, fun _ => rfl, .inl (List.eq_nil_of_length_eq_zero h0)⟩, Nat.zero_le _⟩
  · refine ⟨_, cap, rfl, ⟨hc, (fun e => by cases e), .inr ⟨g, 0, rfl, block_lt hg, block_lt hg, fun j u hu => ?_⟩⟩, hm⟩
    have hj : j < L.length * 2 := by
      rcases Nat.lt_or_ge j (L.length * 2) with k | k
      · exact k
      · rw [List.getElem?_eq_none (by rw [ccells_length]; exact k)] at hu; cases hu
    rw [Nat.zero_add, h.cellAt j hj]
    exact hu
end

/-- 'append(v, ys...)' of coins. -/
theorem coins_append {w : World} {S : Nat} {v : Value} {xs ys : List Coin} {ops : Array Oper} {rest : List Oper} {o : Oper} {a : Act} {Q : Exit → Act → World → Prop} (hgd : o.guard = none) (s x : Operand)
    (ho : o.op = .call { callee := .builtin .append, args := #[s, x], argTypes := #[176, 176] }) (hs : a.eval s = v) (h : w.ownsRow S 180 2 v xs.length (ccells xs)) (ao : Option Addr) (m c : Nat) (hx : a.eval x = .slice ao m c) (hm : ys.length = m)
    (hc : ∀ ad, ao = some ad → ∀ j u, (ccells ys)[j]? = some u → w.cell? (ad.add j) = some u) (hn : ao = none → m = 0 ∧ c = 0)
    (h63 : xs.length + ys.length ≤ 100000) (hS : S ≤ w.heap.size)
    (hK : ∀ v' w', w'.ownsRow S 180 2 v' (xs ++ ys).length (ccells (xs ++ ys)) → w.grownBy w' v.ownBlock → wpList Tryz.prog ops Q rest (a.put o.dst v') w') : wpList Tryz.prog ops Q (o :: rest) a w := by
  obtain ⟨i0, hi0, hz0, hz1, hz2⟩ := info_parts info_coin
  cases ao with
  | none =>
    obtain ⟨rfl, rfl⟩ := hn rfl
    obtain rfl : ys = [] := List.eq_nil_of_length_eq_zero hm
    refine wpList_append_own_none hgd s x _ ho S 180 i0 2 Tryz.underlying176 hi0 v _ _ hs h hx (hK v w (by simpa using h) ⟨rfl, rfl, rfl, Nat.le_refl _, fun _ _ _ => rfl⟩)
  | some ad =>
    refine wpList_append_own_at w hgd s x _ ho S 180 i0 _ 2 16 Tryz.underlying176 hi0 hz0 hz1 hz2 rfl (by omega) v _ _ hs h ad m c (ccells ys) hx (by rw [ccells_length, hm]) (hc ad rfl) (ccells_one ys) (by unfold maxLen; omega) (by omega) hS ?_
    intro v' w' hown hg _ _
    refine hK v' w' ?_ hg
    rw [List.length_append, ccells_app, hm]
    exact hown

end Go.Proofs.YtbcnlggkoidmmaaGreatDoor

namespace Go.Proofs.YtbcnlggkoidmmaaGreatDoor
open Go.RowKit Go.Joins Go.Sort SortMath

/-- W is w0 but for draws, new blocks, and the block g, whose first n coins have the keys f. -/
structure CW (w0 : World) (g n : Nat) (f : Nat → Int) (W : World) : Prop where
  os : W.os = w0.os
  tape : W.tape = w0.tape
  output : W.output = w0.output
  size : w0.heap.size ≤ W.heap.size
  other : ∀ k, k < w0.heap.size → k ≠ g → W.heap[k]? = w0.heap[k]?
  lt : g < w0.heap.size
  row : ∃ cur0 cur T, w0.heap[g]? = some (.cells cur0 T (0, 0)) ∧ W.heap[g]? = some (.cells cur T (0, 0)) ∧ cur.size = cur0.size ∧ n * 2 ≤ cur.size ∧ (∀ i, i < n → cur[i * 2]? = some (.int .i64 (f i / 1024)) ∧ cur[i * 2 + 1]? = some (.int .i64 (f i % 1024)))

section
variable {w0 W W' : World} {g n : Nat} {f : Nat → Int}
theorem CW.gl (h : CW w0 g n f W) : g < W.heap.size := Nat.lt_of_lt_of_le h.lt h.size
theorem CW.cell0 (h : CW w0 g n f W) (i : Nat) (hi : i < n) : W.cell? ⟨g, i * 2, none⟩ = some (.int .i64 (f i / 1024)) := by
  obtain ⟨c0, c, T, h1, h2, h3, h4, h5⟩ := h.row
  rw [cell_of_block h2]
  exact (h5 i hi).1
theorem CW.cell1 (h : CW w0 g n f W) (i : Nat) (hi : i < n) : W.cell? ⟨g, i * 2 + 1, none⟩ = some (.int .i64 (f i % 1024)) := by
  obtain ⟨c0, c, T, h1, h2, h3, h4, h5⟩ := h.row
  rw [cell_of_block h2]
  exact (h5 i hi).2
theorem CW.free (h : CW w0 g n f W) (k : Nat) : W.frozen? ⟨g, k, none⟩ = false := by
  obtain ⟨c0, c, T, h1, h2, h3, h4, h5⟩ := h.row
  simp [World.frozen?, h2]
theorem CW.grown (h : CW w0 g n f W) (q : Nat) (os : Array Obj) : CW w0 g n f (grow (W.drewN q) os) := by
  have hk : ∀ k, k < W.heap.size → (grow (W.drewN q) os).heap[k]? = W.heap[k]? := fun k hk => heap_grow_old (W.drewN q) os hk
  refine ⟨h.os, h.tape, h.output, ?_, fun k h1 h2 => ?_, h.lt, ?_⟩
  · rw [size_grow]
    have := h.size
    show w0.heap.size ≤ W.heap.size + os.size
    omega
  · rw [hk k (Nat.lt_of_lt_of_le h1 h.size)]
    exact h.other k h1 h2
  · obtain ⟨c0, c, T, h1, h2, h3⟩ := h.row
    exact ⟨c0, c, T, h1, (hk g h.gl).trans h2, h3⟩
theorem CW.drewN (h : CW w0 g n f W) (q : Nat) : CW w0 g n f (W.drewN q) := ⟨h.os, h.tape, h.output, h.size, h.other, h.lt, h.row⟩
theorem CW.drew (h : CW w0 g n f W) : CW w0 g n f W.drew := h.drewN 1
theorem CW.congr {f' : Nat → Int} (h : CW w0 g n f W) (e : ∀ i, f i = f' i) : CW w0 g n f' W := by
  obtain rfl : f = f' := funext e
  exact h
/-- A coin put into a place. -/
theorem CW.put (h : CW w0 g n f W) (i : Nat) (hi : i < n) (x : Int) : CW w0 g n (upd f i x) ((W.setCell ⟨g, i * 2, none⟩ (.int .i64 (x / 1024))).setCell ⟨g, i * 2 + 1, none⟩ (.int .i64 (x % 1024))) := by
  refine ⟨h.os, h.tape, h.output, by simpa using h.size, fun k h1 h2 => ?_, h.lt, ?_⟩
  · rw [Below.heap_setCell _ _ _ _ h2, Below.heap_setCell _ _ _ _ h2]
    exact h.other k h1 h2
  · obtain ⟨c0, c, T, h1, h2, h3, h4, h5⟩ := h.row
    refine ⟨c0, (c.setIfInBounds (i * 2) (.int .i64 (x / 1024))).setIfInBounds (i * 2 + 1) (.int .i64 (x % 1024)), T, h1, ?_, by simpa using h3, by simpa using h4, fun j hj => ?_⟩
    · simp [World.setCell, Array.getElem?_modify, h2]
    · obtain ⟨k1, k2⟩ := h5 j hj
      unfold upd
      by_cases e : j = i
      · subst e
        rw [if_pos rfl]
        refine ⟨?_, ?_⟩
        · rw [Array.getElem?_setIfInBounds_ne (by omega), Array.getElem?_setIfInBounds_self_of_lt (by omega)]
        · rw [Array.getElem?_setIfInBounds_self_of_lt (by simp; omega)]
      · rw [if_neg e]
        refine ⟨?_, ?_⟩
        · rw [Array.getElem?_setIfInBounds_ne (by omega), Array.getElem?_setIfInBounds_ne (by omega)]; exact k1
        · rw [Array.getElem?_setIfInBounds_ne (by omega), Array.getElem?_setIfInBounds_ne (by omega)]; exact k2
theorem sw_upd (f : Nat → Int) (i j : Nat) (x : Nat) (h : i ≠ j) : upd (upd f i (f j)) j (f i) x = sw f i j x := by
  unfold upd sw
  by_cases e : x = j
  · rw [if_pos e, if_neg (by omega), if_pos e]
  · rw [if_neg e, if_neg e]
/-- Two coins change places. -/
theorem CW.swap (h : CW w0 g n f W) (i j : Nat) (hi : i < n) (hj : j < n) (hne : i ≠ j) :
    CW w0 g n (sw f i j) ((((W.setCell ⟨g, i * 2, none⟩ (.int .i64 (f j / 1024))).setCell ⟨g, i * 2 + 1, none⟩ (.int .i64 (f j % 1024))).setCell ⟨g, j * 2, none⟩ (.int .i64 (f i / 1024))).setCell ⟨g, j * 2 + 1, none⟩ (.int .i64 (f i % 1024))) :=
  ((h.put i hi (f j)).put j hj (f i)).congr (fun x => sw_upd f i j x hne)
end

end Go.Proofs.YtbcnlggkoidmmaaGreatDoor
