/-
  The search for repeats, and ways to tell a text by bytes and repeats, in plain numbers. Nothing here speaks of the program.
-/
import Derived.Test.YtihcapfdpgaeiaaTokMath
namespace Go.Proofs.Ytihcapfdpgaeiaa.SearchMath
open TokMath

section
variable (f : Nat → Nat) (N : Nat)
/-- The same three bytes at both places. -/
def Three (a b : Nat) : Prop := b + 2 < N ∧ f a = f b ∧ f (a + 1) = f (b + 1) ∧ f (a + 2) = f (b + 2)
instance (a b : Nat) : Decidable (Three f N a b) := by unfold Three; exact inferInstance
/-- How many bytes from a on are those from b on: at most m. -/
def common : Nat → Nat → Nat → Nat
  | _, _, 0 => 0
  | a, b, m + 1 => if b < N ∧ f a = f b then common (a + 1) (b + 1) m + 1 else 0
/-- The places below k with the same three bytes as stand at 'at', the nearest first. -/
def places (at' : Nat) : Nat → List Nat
  | 0 => []
  | k + 1 => if Three f N k at' then k :: places at' k else places at' k
/-- Of places, one behind the other, the longest repeat, of equal ones the first. -/
def pick (at' : Nat) : List Nat → Nat → Nat → Nat × Nat
  | [], b, d => (b, d)
  | k :: r, b, d => if b < common f N k at' 258 then pick at' r (common f N k at' 258) (at' - k) else pick at' r b d
/-- The best repeat: its length and distance. -/
def bestM (at' chain : Nat) : Nat × Nat := pick f N at' ((places f N at' at').take chain) 0 0
/-- A right repeat at a place. -/
def RepOk (at' n d : Nat) : Prop := (3 ≤ n ∧ n ≤ 258) ∧ (1 ≤ d ∧ d ≤ at') ∧ at' + n ≤ N ∧ ∀ i, i < n → f (at' + i) = f (at' + i - d)
end
section
variable {f : Nat → Nat} {N : Nat}
theorem common_le : ∀ m a b, common f N a b m ≤ m
  | 0, _, _ => Nat.le_refl _
  | m + 1, a, b => by
    unfold common
    split
    · have := common_le m (a + 1) (b + 1)
      omega
    · omega
theorem common_same : ∀ m a b i, i < common f N a b m → b + i < N ∧ f (a + i) = f (b + i)
  | 0, _, _, i, h => by
    have : i < 0 := h
    omega
  | m + 1, a, b, i, h => by
    unfold common at h
    split at h
    · rename_i q
      cases i with
      | zero => exact q
      | succ i =>
        have := common_same m (a + 1) (b + 1) i (by omega)
        rw [show a + (i + 1) = a + 1 + i by omega, show b + (i + 1) = b + 1 + i by omega]
        exact this
    · omega
theorem common_stop : ∀ m a b, common f N a b m = m ∨ ¬ (b + common f N a b m < N ∧ f (a + common f N a b m) = f (b + common f N a b m))
  | 0, _, _ => .inl rfl
  | m + 1, a, b => by
    unfold common
    split
    · rcases common_stop m (a + 1) (b + 1) with h | h
      · exact .inl (by rw [h])
      · right
        rw [show b + (common f N (a + 1) (b + 1) m + 1) = b + 1 + common f N (a + 1) (b + 1) m by omega, show a + (common f N (a + 1) (b + 1) m + 1) = a + 1 + common f N (a + 1) (b + 1) m by omega]
        exact h
    · rename_i q
      exact .inr q
theorem common_eq {m a b n : Nat} (hn : n ≤ m) (h : ∀ i, i < n → b + i < N ∧ f (a + i) = f (b + i)) (hs : n = m ∨ ¬ (b + n < N ∧ f (a + n) = f (b + n))) : common f N a b m = n := by
  have h1 := common_le (f := f) (N := N) m a b
  rcases Nat.lt_trichotomy (common f N a b m) n with k | k | k
  · rcases common_stop (f := f) (N := N) m a b with q | q
    · omega
    · exact absurd (h _ k) q
  · exact k
  · rcases hs with q | q
    · omega
    · exact absurd (common_same m a b n k) q
theorem three_common {a b : Nat} (h : Three f N a b) : 3 ≤ common f N a b 258 := by
  obtain ⟨h1, h2, h3, h4⟩ := h
  rcases Nat.lt_or_ge (common f N a b 258) 3 with k | k
  · rcases common_stop (f := f) (N := N) 258 a b with q | q
    · omega
    · have key : ∀ i, i < 3 → b + i < N ∧ f (a + i) = f (b + i) := by
        intro i hi
        match i, hi with
        | 0, _ => exact ⟨by omega, h2⟩
        | 1, _ => exact ⟨by omega, h3⟩
        | 2, _ => exact ⟨by omega, h4⟩
      exact absurd (key _ k) q
  · exact k
theorem places_mem {at' : Nat} : ∀ {K k : Nat}, k ∈ places f N at' K → k < K ∧ Three f N k at'
  | 0, _, h => by cases h
  | K + 1, k, h => by
    unfold places at h
    split at h
    · rename_i q
      rcases List.mem_cons.mp h with rfl | h
      · exact ⟨Nat.lt_succ_self _, q⟩
      · have := places_mem h
        exact ⟨by omega, this.2⟩
    · have := places_mem h
      exact ⟨by omega, this.2⟩
/-- What stands for a best repeat. -/
def Best (f : Nat → Nat) (N at' : Nat) (p : Nat × Nat) : Prop := p = (0, 0) ∨ ∃ k, k < at' ∧ Three f N k at' ∧ p = (common f N k at' 258, at' - k)
theorem pick_best {at' : Nat} : ∀ (l : List Nat) (b d : Nat), (∀ k ∈ l, k < at' ∧ Three f N k at') → Best f N at' (b, d) → Best f N at' (pick f N at' l b d)
  | [], _, _, _, h => h
  | k :: r, b, d, hl, h => by
    unfold pick
    split
    · exact pick_best r _ _ (fun k' hk => hl k' (List.mem_cons_of_mem _ hk)) (.inr ⟨k, (hl k (List.mem_cons_self ..)).1, (hl k (List.mem_cons_self ..)).2, rfl⟩)
    · exact pick_best r _ _ (fun k' hk => hl k' (List.mem_cons_of_mem _ hk)) h
theorem best_is (at' chain : Nat) : Best f N at' (bestM f N at' chain) :=
  pick_best _ 0 0 (fun _ hk => places_mem (List.mem_of_mem_take hk)) (.inl rfl)
/-- Of a text: a best repeat is none, or a right one that cannot go on. -/
theorem best_fact (at' chain : Nat) : bestM f N at' chain = (0, 0) ∨ (RepOk f N at' (bestM f N at' chain).1 (bestM f N at' chain).2 ∧ ((bestM f N at' chain).1 = 258 ∨ at' + (bestM f N at' chain).1 = N ∨ f (at' + (bestM f N at' chain).1) ≠ f (at' + (bestM f N at' chain).1 - (bestM f N at' chain).2))) := by
  rcases best_is (f := f) (N := N) at' chain with h | ⟨k, hk, h3, h⟩
  · exact .inl h
  · right
    rw [h]
    show RepOk f N at' (common f N k at' 258) (at' - k) ∧ (common f N k at' 258 = 258 ∨ at' + common f N k at' 258 = N ∨ f (at' + common f N k at' 258) ≠ f (at' + common f N k at' 258 - (at' - k)))
    have c1 := common_le (f := f) (N := N) 258 k at'
    have c2 := three_common h3
    have c3 := common_same (f := f) (N := N) 258 k at'
    have c4 := common_stop (f := f) (N := N) 258 k at'
    generalize common f N k at' 258 = n at *
    refine ⟨⟨⟨c2, c1⟩, ⟨by omega, by omega⟩, ?_, fun i hi => ?_⟩, ?_⟩
    · have := (c3 (n - 1) (by omega)).1
      omega
    · rw [show at' + i - (at' - k) = k + i by omega]
      exact (c3 i hi).2.symm
    · rcases c4 with q | q
      · exact .inl q
      · right
        rw [show at' + n - (at' - k) = k + n by omega]
        have := (c3 (n - 1) (by omega)).1
        rcases Nat.lt_or_ge (at' + n) N with hl | hl
        · right
          intro e
          exact q ⟨hl, e.symm⟩
        · left
          omega
theorem best_zero {at' chain : Nat} (h : (bestM f N at' chain).1 = 0) : bestM f N at' chain = (0, 0) := by
  rcases best_fact (f := f) (N := N) at' chain with q | q
  · exact q
  · have := q.1.1.1
    omega
theorem best_rep {at' chain : Nat} (h : (bestM f N at' chain).1 ≠ 0) : RepOk f N at' (bestM f N at' chain).1 (bestM f N at' chain).2 := by
  rcases best_fact (f := f) (N := N) at' chain with q | q
  · rw [q] at h
    exact absurd rfl h
  · exact q.1
end

/-! Ways through a text. -/
/-- How many bytes a token makes. -/
def sizeT (t : Tok) : Nat := if t.2.1 = 0 then 1 else t.2.1.toNat
theorem size_byte (x z : Int) : sizeT (x, 0, z) = 1 := rfl
theorem size_rep {k : Nat} (x z : Int) (h : k ≠ 0) : sizeT (x, (k : Int), z) = k := by
  unfold sizeT
  rw [if_neg (show ¬ ((k : Int) = 0) by omega)]
  rfl
def wayF (c : Nat → Tok) (N : Nat) : Nat → Nat → List Tok
  | 0, _ => []
  | m + 1, at' => if at' < N then c at' :: wayF c N m (at' + sizeT (c at')) else []
/-- The tokens from a place on, where c tells the token at each. -/
def wayL (c : Nat → Tok) (N at' : Nat) : List Tok := wayF c N (N - at') at'
section
variable {c : Nat → Tok} {N : Nat}
theorem way_end {at' : Nat} (h : N ≤ at') : wayL c N at' = [] := by
  unfold wayL
  rw [show N - at' = 0 by omega]
  rfl
theorem wayF_fuel (hc : ∀ i, i < N → 1 ≤ sizeT (c i)) : ∀ m at', N - at' ≤ m → wayF c N m at' = wayF c N (N - at') at'
  | 0, at', h => by rw [show N - at' = 0 by omega]
  | m + 1, at', h => by
    by_cases hl : at' < N
    · have h1 := hc at' hl
      obtain ⟨q, hq⟩ : ∃ q, N - at' = q + 1 := ⟨N - at' - 1, by omega⟩
      rw [hq]
      show (if at' < N then c at' :: wayF c N m (at' + sizeT (c at')) else []) = (if at' < N then c at' :: wayF c N q (at' + sizeT (c at')) else [])
      rw [if_pos hl, if_pos hl, wayF_fuel hc m _ (by omega), wayF_fuel hc q _ (by omega)]
    · rw [show N - at' = 0 by omega]
      show (if at' < N then _ else []) = []
      rw [if_neg hl]
termination_by m => m
decreasing_by
  all_goals omega
theorem way_step (hc : ∀ i, i < N → 1 ≤ sizeT (c i)) {at' : Nat} (h : at' < N) : wayL c N at' = c at' :: wayL c N (at' + sizeT (c at')) := by
  have h1 := hc at' h
  unfold wayL
  obtain ⟨q, hq⟩ : ∃ q, N - at' = q + 1 := ⟨N - at' - 1, by omega⟩
  rw [hq]
  show (if at' < N then c at' :: wayF c N q (at' + sizeT (c at')) else []) = _
  rw [if_pos h, wayF_fuel hc q _ (by omega)]
end

/-- The text up to a place. -/
def pre (f : Nat → Nat) (n : Nat) : List Int := (List.range n).map fun i => (f i : Int)
section
variable {f : Nat → Nat} {N : Nat}
theorem pre_length (n : Nat) : (pre f n).length = n := by simp [pre]
theorem pre_succ (n : Nat) : pre f (n + 1) = pre f n ++ [(f n : Int)] := by
  unfold pre
  rw [List.range_succ, List.map_append]
  rfl
theorem pre_get {n i : Nat} (h : i < n) : (pre f n).getD i 0 = (f i : Int) := by
  unfold pre
  rw [List.getD_eq_getElem?_getD, List.getElem?_map, List.getElem?_range h]
  rfl
theorem copy_pre' {d at' : Nat} (h1 : 1 ≤ d) (h2 : d ≤ at') : ∀ k, (∀ i, i < k → f (at' + i) = f (at' + i - d)) → copyN d k (pre f at') = pre f (at' + k)
  | 0, _ => rfl
  | k + 1, h => by
    rw [copy_snoc, copy_pre' h1 h2 k (fun i hi => h i (by omega)), pre_length, pre_get (by omega), ← h k (Nat.lt_succ_self k), ← pre_succ]
    rfl
/-- A token that tells what stands at a place. -/
def Fine (f : Nat → Nat) (N at' : Nat) (t : Tok) : Prop := t = ((f at' : Int), 0, 0) ∨ ∃ k d : Nat, t = (0, (k : Int), (d : Int)) ∧ RepOk f N at' k d
theorem fine_size {at' : Nat} {t : Tok} (h : Fine f N at' t) (hl : at' < N) : 1 ≤ sizeT t ∧ at' + sizeT t ≤ N := by
  rcases h with rfl | ⟨k, d, rfl, h1, _, h3, _⟩
  · exact ⟨Nat.le_refl _, hl⟩
  · rw [size_rep _ _ (by omega)]
    omega
theorem fine_right {at' : Nat} {t : Tok} (hf : ∀ i, f i < 256) (hN : N ≤ 32768) (h : Fine f N at' t) : TokRight t := by
  rcases h with rfl | ⟨k, d, rfl, h1, h2, h3, _⟩
  · have := hf at'
    exact ⟨⟨by show (0 : Int) ≤ (f at' : Int); omega, by show (f at' : Int) ≤ 255; omega⟩, rfl⟩
  · unfold TokRight
    rw [if_neg (show ¬ ((k : Int) = 0) by omega)]
    exact ⟨rfl, ⟨by show (3 : Int) ≤ (k : Int); omega, by show (k : Int) ≤ 258; omega⟩, by show (1 : Int) ≤ (d : Int); omega, by show (d : Int) ≤ 32768; omega⟩
theorem fine_app {at' : Nat} {t : Tok} (h : Fine f N at' t) : tokApp (pre f at') t = pre f (at' + sizeT t) ∧ t.2.2 ≤ ((pre f at').length : Int) := by
  rcases h with rfl | ⟨k, d, rfl, h1, h2, _, h4⟩
  · rw [size_byte, pre_succ]
    exact ⟨rfl, by show (0 : Int) ≤ _; omega⟩
  · rw [size_rep _ _ (by omega)]
    constructor
    · unfold tokApp
      rw [if_neg (show ¬ ((k : Int) = 0) by omega)]
      exact copy_pre' h2.1 h2.2 k h4
    · rw [pre_length]
      show (d : Int) ≤ (at' : Int)
      omega
/-- Such tokens make the text again. -/
theorem run_way {c : Nat → Tok} (hf : ∀ i, f i < 256) (hN : N ≤ 32768) (hc : ∀ i, i < N → Fine f N i (c i)) : ∀ m at', N - at' = m → at' ≤ N → run (pre f at') (wayL c N at') = some (pre f N) := by
  intro m
  induction m using Nat.strongRecOn with
  | _ m ih =>
    intro at' hm hl
    by_cases h : at' < N
    · have h1 := fine_size (hc at' h) h
      have h2 := fine_app (hc at' h)
      rw [way_step (fun i hi => (fine_size (hc i hi) hi).1) h]
      unfold run
      rw [if_pos ⟨fine_right hf hN (hc at' h), h2.2⟩, h2.1]
      exact ih _ (by omega) _ rfl h1.2
    · rw [way_end (by omega), show at' = N by omega]
      rfl
theorem way_all {c : Nat → Tok} (hf : ∀ i, f i < 256) (hN : N ≤ 32768) (hc : ∀ i, i < N → Fine f N i (c i)) : run [] (wayL c N 0) = some (pre f N) := run_way hf hN hc N 0 rfl (Nat.zero_le _)
theorem way_length {c : Nat → Tok} (hc : ∀ i, i < N → 1 ≤ sizeT (c i)) : ∀ m at', N - at' = m → (wayL c N at').length ≤ N - at' := by
  intro m
  induction m using Nat.strongRecOn with
  | _ m ih =>
    intro at' hm
    by_cases h : at' < N
    · have h1 := hc at' h
      rw [way_step hc h, List.length_cons]
      have := ih (N - (at' + sizeT (c at'))) (by omega) (at' + sizeT (c at')) rfl
      omega
    · rw [way_end (by omega)]
      exact Nat.zero_le _
end
/-- What Greedy takes at a place. -/
def greedyC (f : Nat → Nat) (N chain : Nat) (at' : Nat) : Tok := if (bestM f N at' chain).1 = 0 then ((f at' : Int), 0, 0) else (0, ((bestM f N at' chain).1 : Int), ((bestM f N at' chain).2 : Int))
/-- What Lazy takes: at the last place there is no next one. -/
def lazyC (f : Nat → Nat) (N chain : Nat) (at' : Nat) : Tok := if (bestM f N at' chain).1 = 0 ∨ (bestM f N at' chain).1 < (bestM f N (at' + 1) chain).1 then ((f at' : Int), 0, 0) else (0, ((bestM f N at' chain).1 : Int), ((bestM f N at' chain).2 : Int))
theorem greedy_fine (f : Nat → Nat) (N chain at' : Nat) : Fine f N at' (greedyC f N chain at') := by
  unfold greedyC
  split
  · exact .inl rfl
  · rename_i h
    exact .inr ⟨_, _, rfl, best_rep h⟩
theorem lazy_fine (f : Nat → Nat) (N chain at' : Nat) : Fine f N at' (lazyC f N chain at') := by
  unfold lazyC
  split
  · exact .inl rfl
  · rename_i h
    exact .inr ⟨_, _, rfl, best_rep (fun e => h (.inl e))⟩
/-- Behind the text there is no repeat. -/
theorem best_none {f : Nat → Nat} {N at' chain : Nat} (h : N ≤ at' + 2) : bestM f N at' chain = (0, 0) := by
  have key : ∀ k, places f N at' k = [] := by
    intro k
    induction k with
    | zero => rfl
    | succ k ih =>
      unfold places
      rw [if_neg (fun q => by have := q.1; omega), ih]
  unfold bestM
  rw [key]
  simp [pick]

end Go.Proofs.Ytihcapfdpgaeiaa.SearchMath
