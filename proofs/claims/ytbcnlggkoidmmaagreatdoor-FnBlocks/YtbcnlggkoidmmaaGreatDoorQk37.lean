/-
  A stable sort in place, in plain numbers: an element is its key, its weight a thousand and twenty-fourth of it; of two elements that stand the wrong way round the weights do so too. Nothing here speaks of the program.
  Two parts that are in order made one, and blocks that are in order, in plain numbers. Nothing here speaks of the program.
-/
namespace Go.Proofs.YtbcnlggkoidmmaaGreatDoor.SortMath

/-- Two elements change places. -/
def sw (f : Nat → Int) (i j : Nat) : Nat → Int := fun x => if x = i then f j else if x = j then f i else f x
/-- From a on, below b, it rises. -/
def Up (f : Nat → Int) (a b : Nat) : Prop := ∀ i j, a ≤ i → i < j → j < b → f i < f j
/-- Two elements that stand the wrong way round have weights that do so too. -/
def Stb (f : Nat → Int) (a b : Nat) : Prop := ∀ i j, a ≤ i → i < j → j < b → f i < f j ∨ f j / 1024 < f i / 1024
/-- What stands within [a, b) stood there, and all else is as it was. -/
def Of (f g : Nat → Int) (a b : Nat) : Prop := (∀ i, a ≤ i → i < b → ∃ j, a ≤ j ∧ j < b ∧ g i = f j) ∧ ∀ i, ¬ (a ≤ i ∧ i < b) → g i = f i

theorem Of.refl (f : Nat → Int) (a b : Nat) : Of f f a b := ⟨fun i h1 h2 => ⟨i, h1, h2, rfl⟩, fun _ _ => rfl⟩
theorem Of.trans {f g h : Nat → Int} {a b : Nat} (h1 : Of f g a b) (h2 : Of g h a b) : Of f h a b := by
  refine ⟨fun i q1 q2 => ?_, fun i q => (h2.2 i q).trans (h1.2 i q)⟩
  obtain ⟨j, p1, p2, e⟩ := h2.1 i q1 q2
  obtain ⟨k, r1, r2, e2⟩ := h1.1 j p1 p2
  exact ⟨k, r1, r2, e.trans e2⟩
theorem Of.wide {f g : Nat → Int} {a b a' b' : Nat} (h : Of f g a b) (h1 : a' ≤ a) (h2 : b ≤ b') : Of f g a' b' := by
  refine ⟨fun i q1 q2 => ?_, fun i q => h.2 i (by omega)⟩
  by_cases hi : a ≤ i ∧ i < b
  · obtain ⟨j, p1, p2, e⟩ := h.1 i hi.1 hi.2
    exact ⟨j, by omega, by omega, e⟩
  · exact ⟨i, q1, q2, h.2 i hi⟩
theorem Up.le {f : Nat → Int} {a b : Nat} (h : Up f a b) {i j : Nat} (h1 : a ≤ i) (h2 : i ≤ j) (h3 : j < b) : f i ≤ f j := by
  rcases Nat.lt_or_ge i j with q | q
  · exact Int.le_of_lt (h i j h1 q h3)
  · obtain rfl : i = j := by omega
    exact Int.le_refl _
theorem Up.part {f : Nat → Int} {a b a' b' : Nat} (h : Up f a b) (h1 : a ≤ a') (h2 : b' ≤ b) : Up f a' b' := fun i j q1 q2 q3 => h i j (by omega) q2 (by omega)
theorem Stb.part {f : Nat → Int} {a b a' b' : Nat} (h : Stb f a b) (h1 : a ≤ a') (h2 : b' ≤ b) : Stb f a' b' := fun i j q1 q2 q3 => h i j (by omega) q2 (by omega)
theorem Up.congr {f g : Nat → Int} {a b : Nat} (h : Up f a b) (e : ∀ i, a ≤ i → i < b → g i = f i) : Up g a b := fun i j q1 q2 q3 => by rw [e i q1 (by omega), e j (by omega) q3]; exact h i j q1 q2 q3
/-- Sorted within [a, b), the whole is as it must be. -/
theorem Stb.sorted {f g : Nat → Int} {a b n : Nat} (h : Stb f 0 n) (hb : b ≤ n) (hu : Up g a b) (ho : Of f g a b) : Stb g 0 n := by
  intro i j _ h2 h3
  by_cases qi : a ≤ i ∧ i < b
  · by_cases qj : a ≤ j ∧ j < b
    · exact .inl (hu i j qi.1 h2 qj.2)
    · obtain ⟨k, p1, p2, e⟩ := ho.1 i qi.1 qi.2
      rw [e, ho.2 j qj]
      exact h k j (Nat.zero_le _) (by omega) h3
  · by_cases qj : a ≤ j ∧ j < b
    · obtain ⟨k, p1, p2, e⟩ := ho.1 j qj.1 qj.2
      rw [e, ho.2 i qi]
      exact h i k (Nat.zero_le _) (by omega) (by omega)
    · rw [ho.2 i qi, ho.2 j qj]
      exact h i j (Nat.zero_le _) h2 h3

/-! The insertion of one element. -/
/-- Within [a, i] all but what stands at j rises, and that is below what stands behind it; g is what stood there at first. -/
def Ins (g f : Nat → Int) (a j i : Nat) : Prop := a ≤ j ∧ j ≤ i ∧ (∀ x y, a ≤ x → x < y → y ≤ i → x ≠ j → y ≠ j → f x < f y) ∧ (∀ y, j < y → y ≤ i → f j < f y) ∧ f j = g i ∧ (∀ x, a ≤ x → x ≤ i → x ≠ j → ∃ y, a ≤ y ∧ y < i ∧ f x = g y) ∧ ∀ x, ¬ (a ≤ x ∧ x ≤ i) → f x = g x

theorem ins_start {g : Nat → Int} {a i : Nat} (hai : a ≤ i) (h : Up g a i) : Ins g g a i i :=
  ⟨hai, Nat.le_refl _, fun x y h1 h2 h3 _ h5 => h x y h1 h2 (by omega), fun y h1 h2 => by omega, rfl, fun x h1 h2 h3 => ⟨x, h1, by omega, rfl⟩, fun _ _ => rfl⟩
theorem ins_step {g f : Nat → Int} {a j i : Nat} (hI : Ins g f a (j + 1) i) (haj : a ≤ j) (hlt : f (j + 1) < f j) : Ins g (sw f (j + 1) j) a j i := by
  obtain ⟨h1, h2, h3, h4, h5, h6, h7⟩ := hI
  have e0 : sw f (j + 1) j j = f (j + 1) := by unfold sw; rw [if_neg (by omega), if_pos rfl]
  have e1 : sw f (j + 1) j (j + 1) = f j := by unfold sw; rw [if_pos rfl]
  have e2 : ∀ x, x ≠ j → x ≠ j + 1 → sw f (j + 1) j x = f x := fun x p q => by unfold sw; rw [if_neg q, if_neg p]
  refine ⟨haj, by omega, fun x y q1 q2 q3 q4 q5 => ?_, fun y q1 q2 => ?_, by rw [e0]; exact h5, fun x q1 q2 q3 => ?_, fun x q => ?_⟩
  · by_cases ex : x = j + 1
    · rw [ex, e1, e2 y q5 (by omega)]
      exact h3 j y haj (by omega) q3 (by omega) (by omega)
    · by_cases ey : y = j + 1
      · rw [ey, e1, e2 x q4 ex]
        exact h3 x j q1 (by omega) (by omega) (by omega) (by omega)
      · rw [e2 x q4 ex, e2 y q5 ey]
        exact h3 x y q1 q2 q3 ex ey
  · rw [e0]
    by_cases ey : y = j + 1
    · rw [ey, e1]; exact hlt
    · rw [e2 y (by omega) ey]
      exact h4 y (by omega) q2
  · by_cases ex : x = j + 1
    · rw [ex, e1]
      exact h6 j haj (by omega) (by omega)
    · rw [e2 x q3 ex]
      exact h6 x q1 q2 ex
  · rw [e2 x (by omega) (by omega)]
    exact h7 x q
theorem ins_end {g f : Nat → Int} {a j i : Nat} (hI : Ins g f a j i) (hs : j = a ∨ f (j - 1) < f j) : Up f a (i + 1) ∧ Of g f a (i + 1) := by
  obtain ⟨h1, h2, h3, h4, h5, h6, h7⟩ := hI
  refine ⟨fun x y q1 q2 q3 => ?_, fun x q1 q2 => ?_, fun x q => h7 x (by omega)⟩
  · by_cases ex : x = j
    · rw [ex]; exact h4 y (by omega) (by omega)
    · by_cases ey : y = j
      · rw [ey]
        have hlt : f (j - 1) < f j := by
          rcases hs with e | e
          · omega
          · exact e
        by_cases e : x = j - 1
        · rw [e]; exact hlt
        · exact Int.lt_trans (h3 x (j - 1) q1 (by omega) (by omega) ex (by omega)) hlt
      · exact h3 x y q1 q2 (by omega) ex ey
  · by_cases ex : x = j
    · exact ⟨i, by omega, by omega, by rw [ex]; exact h5⟩
    · obtain ⟨y, p1, p2, e⟩ := h6 x q1 (by omega) ex
      exact ⟨y, p1, by omega, e⟩
/-- What stands ahead of it is above it only where its weight is. -/
theorem ins_wt {g f : Nat → Int} {a j i b : Nat} (hI : Ins g f a (j + 1) i) (haj : a ≤ j) (hib : i < b) (hs : Stb g a b) : (f (j + 1) / 1024 < f j / 1024 → f (j + 1) < f j) ∧ (¬ f (j + 1) / 1024 < f j / 1024 → f j < f (j + 1)) := by
  obtain ⟨h1, h2, h3, h4, h5, h6, h7⟩ := hI
  obtain ⟨y, p1, p2, e⟩ := h6 j haj (by omega) (by omega)
  have := hs y i p1 p2 hib
  rw [h5, e]
  constructor
  · intro q; omega
  · intro q
    rcases this with q2 | q2
    · exact q2
    · exact absurd q2 q

/-! Elements moved past others. -/
/-- What stood at a stands at k, those between them one place lower. -/
def shl (f : Nat → Int) (a k : Nat) : Nat → Int := fun x => if a ≤ x ∧ x < k then f (x + 1) else if x = k then f a else f x
theorem shl_zero (f : Nat → Int) (a x : Nat) : shl f a a x = f x := by
  unfold shl
  by_cases h : x = a
  · rw [if_neg (by omega), if_pos h, h]
  · rw [if_neg (by omega), if_neg h]
theorem shl_step (f : Nat → Int) (a k x : Nat) (h : a ≤ k) : sw (shl f a k) k (k + 1) x = shl f a (k + 1) x := by
  unfold sw shl
  by_cases e : x = k
  · subst e
    simp [h]
    omega
  · by_cases e2 : x = k + 1
    · subst e2; simp
    · by_cases e3 : a ≤ x ∧ x < k
      · rw [if_neg e, if_neg e2, if_pos e3, if_pos (by omega)]
      · rw [if_neg e, if_neg e2, if_neg e3, if_neg e, if_neg (by omega), if_neg e2]
/-- What stood at m stands at k, those between them one place higher. -/
def shr (f : Nat → Int) (m k : Nat) : Nat → Int := fun x => if k < x ∧ x ≤ m then f (x - 1) else if x = k then f m else f x
theorem shr_zero (f : Nat → Int) (m x : Nat) : shr f m m x = f x := by
  unfold shr
  by_cases h : x = m
  · rw [if_neg (by omega), if_pos h, h]
  · rw [if_neg (by omega), if_neg h]
theorem shr_step (f : Nat → Int) (m k x : Nat) (h : k + 1 ≤ m) : sw (shr f m (k + 1)) (k + 1) k x = shr f m k x := by
  unfold sw shr
  by_cases e : x = k + 1
  · subst e
    simp [h]
    intro q
    omega
  · by_cases e2 : x = k
    · subst e2; simp
    · by_cases e3 : k + 1 < x ∧ x ≤ m
      · rw [if_neg e, if_neg e2, if_pos e3, if_pos (by omega)]
      · rw [if_neg e, if_neg e2, if_neg e3, if_neg e, if_neg (by omega), if_neg e2]

/-- One element ahead, those behind it in order: put where it belongs. -/
theorem shl_up {f : Nat → Int} {a b i : Nat} (hu : Up f (a + 1) b) (hi : a + 1 ≤ i) (hib : i ≤ b) (hlo : ∀ x, a + 1 ≤ x → x < i → f x < f a) (hhi : ∀ x, i ≤ x → x < b → f a < f x) : Up (shl f a (i - 1)) a b ∧ Of f (shl f a (i - 1)) a b := by
  have e0 : ∀ x, a ≤ x → x < i - 1 → shl f a (i - 1) x = f (x + 1) := fun x p q => by unfold shl; rw [if_pos ⟨p, q⟩]
  have e1 : shl f a (i - 1) (i - 1) = f a := by unfold shl; rw [if_neg (by omega), if_pos rfl]
  have e2 : ∀ x, ¬ (a ≤ x ∧ x ≤ i - 1) → shl f a (i - 1) x = f x := fun x q => by unfold shl; rw [if_neg (by omega), if_neg (by omega)]
  refine ⟨fun x y q1 q2 q3 => ?_, fun x q1 q2 => ?_, fun x q => e2 x (by omega)⟩
  · by_cases h1 : x < i - 1
    · rw [e0 x q1 h1]
      by_cases h2 : y < i - 1
      · rw [e0 y (by omega) h2]; exact hu _ _ (by omega) (by omega) (by omega)
      · by_cases h3 : y = i - 1
        · rw [h3, e1]; exact hlo _ (by omega) (by omega)
        · rw [e2 y (by omega)]; exact hu _ _ (by omega) (by omega) q3
    · by_cases h3 : x = i - 1
      · rw [h3, e1, e2 y (by omega)]; exact hhi _ (by omega) q3
      · rw [e2 x (by omega), e2 y (by omega)]; exact hu _ _ (by omega) q2 q3
  · by_cases h1 : x < i - 1
    · exact ⟨x + 1, by omega, by omega, e0 x q1 h1⟩
    · by_cases h3 : x = i - 1
      · exact ⟨a, by omega, by omega, by rw [h3]; exact e1⟩
      · exact ⟨x, q1, q2, e2 x (by omega)⟩
/-- One element behind, those ahead of it in order. -/
theorem shr_up {f : Nat → Int} {a m i : Nat} (hu : Up f a m) (hi : a ≤ i) (him : i ≤ m) (hlo : ∀ x, a ≤ x → x < i → f x < f m) (hhi : ∀ x, i ≤ x → x < m → f m < f x) : Up (shr f m i) a (m + 1) ∧ Of f (shr f m i) a (m + 1) := by
  have e0 : ∀ x, i < x → x ≤ m → shr f m i x = f (x - 1) := fun x p q => by unfold shr; rw [if_pos ⟨p, q⟩]
  have e1 : shr f m i i = f m := by unfold shr; rw [if_neg (by omega), if_pos rfl]
  have e2 : ∀ x, ¬ (i ≤ x ∧ x ≤ m) → shr f m i x = f x := fun x q => by unfold shr; rw [if_neg (by omega), if_neg (by omega)]
  refine ⟨fun x y q1 q2 q3 => ?_, fun x q1 q2 => ?_, fun x q => e2 x (by omega)⟩
  · by_cases h1 : x < i
    · rw [e2 x (by omega)]
      by_cases h2 : y < i
      · rw [e2 y (by omega)]; exact hu _ _ q1 q2 (by omega)
      · by_cases h3 : y = i
        · rw [h3, e1]; exact hlo _ q1 h1
        · rw [e0 y (by omega) (by omega)]; exact hu _ _ q1 (by omega) (by omega)
    · by_cases h3 : x = i
      · rw [h3, e1, e0 y (by omega) (by omega)]; exact hhi _ (by omega) (by omega)
      · rw [e0 x (by omega) (by omega), e0 y (by omega) (by omega)]; exact hu _ _ (by omega) (by omega) (by omega)
  · by_cases h1 : x < i
    · exact ⟨x, by omega, by omega, e2 x (by omega)⟩
    · by_cases h3 : x = i
      · exact ⟨m, by omega, by omega, by rw [h3]; exact e1⟩
      · exact ⟨x - 1, by omega, by omega, e0 x (by omega) (by omega)⟩

/-! Parts that change places. -/
def swr (f : Nat → Int) (p q n : Nat) : Nat → Int := fun x => if p ≤ x ∧ x < p + n then f (x - p + q) else if q ≤ x ∧ x < q + n then f (x - q + p) else f x
theorem swr_zero (f : Nat → Int) (p q x : Nat) : swr f p q 0 x = f x := by unfold swr; rw [if_neg (by omega), if_neg (by omega)]
theorem swr_step (f : Nat → Int) (p q n x : Nat) (h : p + n < q) : sw (swr f p q n) (p + n) (q + n) x = swr f p q (n + 1) x := by
  have e1 : swr f p q n (q + n) = f (q + n) := by unfold swr; rw [if_neg (by omega), if_neg (by omega)]
  have e2 : swr f p q n (p + n) = f (p + n) := by unfold swr; rw [if_neg (by omega), if_neg (by omega)]
  unfold sw
  rw [e1, e2]
  by_cases h1 : x = p + n
  · rw [if_pos h1]; unfold swr; rw [if_pos (by omega)]; congr 1; omega
  · rw [if_neg h1]
    by_cases h2 : x = q + n
    · rw [if_pos h2]; unfold swr; rw [if_neg (by omega), if_pos (by omega)]; congr 1; omega
    · rw [if_neg h2]
      unfold swr
      by_cases h3 : p ≤ x ∧ x < p + n
      · rw [if_pos h3, if_pos (by omega)]
      · rw [if_neg h3, if_neg (show ¬ (p ≤ x ∧ x < p + (n + 1)) by omega)]
        by_cases h4 : q ≤ x ∧ x < q + n
        · rw [if_pos h4, if_pos (by omega)]
        · rw [if_neg h4, if_neg (by omega)]
/-- [s, m) and [m, e) change places. -/
def rot (f : Nat → Int) (s m e : Nat) : Nat → Int := fun x => if s ≤ x ∧ x < s + (e - m) then f (x + (m - s)) else if s + (e - m) ≤ x ∧ x < e then f (x - (e - m)) else f x
theorem rot_same (f : Nat → Int) (s m e x : Nat) (h : s = m ∨ m = e) (h1 : s ≤ m) (h2 : m ≤ e) : rot f s m e x = f x := by
  unfold rot
  by_cases p : s ≤ x ∧ x < s + (e - m)
  · rw [if_pos p]; congr 1; omega
  · rw [if_neg p]
    by_cases q : s + (e - m) ≤ x ∧ x < e
    · rw [if_pos q]; congr 1; omega
    · rw [if_neg q]
theorem rot_last (f : Nat → Int) (m i x : Nat) (h : i ≤ m) : swr f (m - i) m i x = rot f (m - i) m (m + i) x := by
  unfold swr rot
  by_cases p : m - i ≤ x ∧ x < m - i + i
  · rw [if_pos p, if_pos (by omega)]; congr 1; omega
  · rw [if_neg p, if_neg (show ¬ (m - i ≤ x ∧ x < m - i + (m + i - m)) by omega)]
    by_cases q : m ≤ x ∧ x < m + i
    · rw [if_pos q, if_pos (by omega)]; congr 1; omega
    · rw [if_neg q, if_neg (by omega)]
theorem rot_left (f : Nat → Int) (m i j x : Nat) (h : i ≤ m) (hj : j < i) : rot (swr f (m - i) m j) (m - (i - j)) m (m + j) x = rot f (m - i) m (m + j) x := by
  have w1 : ∀ y, m - i ≤ y → y < m - i + j → swr f (m - i) m j y = f (y + i) := fun y p q => by unfold swr; rw [if_pos ⟨p, q⟩]; congr 1; omega
  have w2 : ∀ y, m ≤ y → y < m + j → swr f (m - i) m j y = f (y - i) := fun y p q => by unfold swr; rw [if_neg (by omega), if_pos ⟨p, q⟩]; congr 1; omega
  have w3 : ∀ y, ¬ (m - i ≤ y ∧ y < m - i + j) → ¬ (m ≤ y ∧ y < m + j) → swr f (m - i) m j y = f y := fun y p q => by unfold swr; rw [if_neg p, if_neg q]
  unfold rot
  by_cases p : m - i ≤ x ∧ x < m - i + j
  · rw [if_neg (by omega), if_neg (by omega), if_pos (by omega), w1 x p.1 p.2]; congr 1; omega
  · rw [if_neg (show ¬ (m - i ≤ x ∧ x < m - i + (m + j - m)) by omega)]
    by_cases p2 : m - (i - j) ≤ x ∧ x < m - (i - j) + (m + j - m)
    · rw [if_pos p2, if_pos (by omega), w2 _ (by omega) (by omega)]; congr 1; omega
    · rw [if_neg p2]
      by_cases p3 : m - (i - j) + (m + j - m) ≤ x ∧ x < m + j
      · rw [if_pos p3, if_pos (by omega), w3 _ (by omega) (by omega)]
      · rw [if_neg p3, if_neg (by omega), w3 _ p (by omega)]
theorem rot_right (f : Nat → Int) (m i j x : Nat) (h : i ≤ m) (hj : i < j) : rot (swr f (m - i) (m + j - i) i) (m - i) m (m + (j - i)) x = rot f (m - i) m (m + j) x := by
  have w1 : ∀ y, m - i ≤ y → y < m → swr f (m - i) (m + j - i) i y = f (y + j) := fun y p q => by unfold swr; rw [if_pos (by omega)]; congr 1; omega
  have w2 : ∀ y, m + j - i ≤ y → y < m + j → swr f (m - i) (m + j - i) i y = f (y - j) := fun y p q => by unfold swr; rw [if_neg (by omega), if_pos (by omega)]; congr 1; omega
  have w3 : ∀ y, ¬ (m - i ≤ y ∧ y < m) → ¬ (m + j - i ≤ y ∧ y < m + j) → swr f (m - i) (m + j - i) i y = f y := fun y p q => by unfold swr; rw [if_neg (by omega), if_neg (by omega)]
  unfold rot
  by_cases p : m - i ≤ x ∧ x < m - i + (m + (j - i) - m)
  · rw [if_pos p, if_pos (by omega)]
    by_cases e : x + (m - (m - i)) < m
    · omega
    · rw [w3 _ (by omega) (by omega)]
  · rw [if_neg p]
    by_cases p2 : m - i + (m + (j - i) - m) ≤ x ∧ x < m + (j - i)
    · rw [if_pos p2, if_pos (by omega), w1 _ (by omega) (by omega)]; congr 1; omega
    · rw [if_neg p2]
      by_cases p3 : m + j - i ≤ x ∧ x < m + j
      · rw [if_neg (by omega), if_pos (by omega), w2 x p3.1 p3.2]; congr 1; omega
      · rw [if_neg (by omega), if_neg (by omega), w3 x (by omega) p3]

/-- Both are in order, and what is equal is the same. -/
theorem up_unique {f g : Nat → Int} {n : Nat} (hf : Up f 0 n) (hg : Up g 0 n) (h : ∀ i, i < n → ∃ j, j < n ∧ f i = g j) : ∀ i, i < n → f i = g i := by
  have lo : ∀ i, i < n → ∀ j, j < n → f i = g j → i ≤ j := by
    intro i
    induction i with
    | zero => intros; omega
    | succ i ih =>
      intro hi j hj e
      obtain ⟨k, hk, e2⟩ := h i (by omega)
      have := ih (by omega) k hk e2
      have hlt := hf i (i + 1) (by omega) (by omega) hi
      rcases Nat.lt_or_ge k j with q | q
      · omega
      · have := Up.le hg (Nat.zero_le j) q hk
        omega
  have hi : ∀ d i, i + d + 1 = n → ∀ j, j < n → f i = g j → j ≤ i := by
    intro d
    induction d with
    | zero => intros; omega
    | succ d ih =>
      intro i hi j hj e
      obtain ⟨k, hk, e2⟩ := h (i + 1) (by omega)
      have := ih (i + 1) (by omega) k hk e2
      have hlt := hf i (i + 1) (by omega) (by omega) (by omega)
      rcases Nat.lt_or_ge j k with q | q
      · omega
      · have := Up.le hg (Nat.zero_le k) q hj
        omega
  intro i hin
  obtain ⟨j, hj, e⟩ := h i hin
  have h1 := lo i hin j hj e
  have h2 := hi (n - i - 1) i (by omega) j hj e
  rw [e, show j = i by omega]

end Go.Proofs.YtbcnlggkoidmmaaGreatDoor.SortMath

namespace Go.Proofs.YtbcnlggkoidmmaaGreatDoor.SortMath

/-- Where the cut is right, the parts behind the turn are as they must be. -/
theorem sym_parts {f : Nat → Int} {a m b mid s e : Nat} (ham : a < m) (hmb : m < b) (h1 : mid ≤ b) (hst : Stb f a b) (hu1 : Up f a m) (hu2 : Up f m b) (hs : a ≤ s) (hsm : s ≤ m) (hsd : s ≤ mid) (he : e + s = mid + m) (heb : e ≤ b)
    (hL : s = a ∨ e = b ∨ f (s - 1) < f e) (hR : s = m ∨ s = mid ∨ f (e - 1) < f s) :
    Up (rot f s m e) a s ∧ Up (rot f s m e) s mid ∧ Up (rot f s m e) mid e ∧ Up (rot f s m e) e b ∧ Stb (rot f s m e) a mid ∧ Stb (rot f s m e) mid b ∧ (∀ x y, a ≤ x → x < mid → mid ≤ y → y < b → rot f s m e x < rot f s m e y) ∧ Of f (rot f s m e) a b := by
  have g1 : ∀ x, x < s → rot f s m e x = f x := fun x h => by unfold rot; rw [if_neg (by omega), if_neg (by omega)]
  have g2 : ∀ x, s ≤ x → x < mid → rot f s m e x = f (x + (m - s)) := fun x h h' => by unfold rot; rw [if_pos (by omega)]
  have g3 : ∀ x, mid ≤ x → x < e → rot f s m e x = f (x - (e - m)) := fun x h h' => by unfold rot; rw [if_neg (by omega), if_pos (by omega)]
  have g4 : ∀ x, e ≤ x → rot f s m e x = f x := fun x h => by unfold rot; rw [if_neg (by omega), if_neg (by omega)]
  refine ⟨?_, ?_, ?_, ?_, ?_, ?_, ?_, ?_, ?_⟩
  · intro x y q1 q2 q3
    rw [g1 x (by omega), g1 y q3]; exact hu1 x y q1 q2 (by omega)
  · intro x y q1 q2 q3
    rw [g2 x q1 (by omega), g2 y (by omega) q3]; exact hu2 _ _ (by omega) (by omega) (by omega)
  · intro x y q1 q2 q3
    rw [g3 x q1 (by omega), g3 y (by omega) q3]; exact hu1 _ _ (by omega) (by omega) (by omega)
  · intro x y q1 q2 q3
    rw [g4 x q1, g4 y (by omega)]; exact hu2 _ _ (by omega) (by omega) (by omega)
  · intro x y q1 q2 q3
    by_cases c1 : y < s
    · rw [g1 x (by omega), g1 y c1]; exact hst x y q1 q2 (by omega)
    · rw [g2 y (by omega) q3]
      by_cases c2 : x < s
      · rw [g1 x c2]; exact hst _ _ q1 (by omega) (by omega)
      · rw [g2 x (by omega) (by omega)]; exact hst _ _ (by omega) (by omega) (by omega)
  · intro x y q1 q2 q3
    by_cases c1 : y < e
    · rw [g3 x q1 (by omega), g3 y (by omega) c1]; exact hst _ _ (by omega) (by omega) (by omega)
    · rw [g4 y (by omega)]
      by_cases c2 : x < e
      · rw [g3 x q1 c2]; exact hst _ _ (by omega) (by omega) q3
      · rw [g4 x (by omega)]; exact hst _ _ (by omega) (by omega) q3
  · intro x y q1 q2 q3 q4
    by_cases c1 : x < s
    · rw [g1 x c1]
      by_cases c2 : y < e
      · rw [g3 y q3 c2]; exact hu1 _ _ q1 (by omega) (by omega)
      · rw [g4 y (by omega)]
        rcases hL with k | k | k
        · omega
        · omega
        · have k1 := Up.le hu1 q1 (show x ≤ s - 1 by omega) (by omega)
          have k2 := Up.le hu2 (show m ≤ e by omega) (show e ≤ y by omega) q4
          omega
    · rw [g2 x (by omega) q2]
      by_cases c2 : y < e
      · rw [g3 y q3 c2]
        rcases hR with k | k | k
        · omega
        · omega
        · have k1 := Up.le hu2 (show m ≤ x + (m - s) by omega) (show x + (m - s) ≤ e - 1 by omega) (by omega)
          have k2 := Up.le hu1 hs (show s ≤ y - (e - m) by omega) (by omega)
          omega
      · rw [g4 y (by omega)]; exact hu2 _ _ (by omega) (by omega) q4
  · intro x q1 q2
    by_cases c1 : x < s
    · exact ⟨x, q1, q2, g1 x c1⟩
    · by_cases c2 : x < mid
      · exact ⟨_, by omega, by omega, g2 x (by omega) c2⟩
      · by_cases c3 : x < e
        · exact ⟨_, by omega, by omega, g3 x (by omega) c3⟩
        · exact ⟨x, q1, q2, g4 x (by omega)⟩
  · intro x q
    by_cases c1 : x < s
    · exact g1 x c1
    · exact g4 x (by omega)

theorem up_two {f : Nat → Int} {a s b : Nat} (h1 : Up f a s) (h2 : Up f s b) (h : s = a ∨ s = b) : Up f a b := by
  rcases h with rfl | rfl
  · exact h2
  · exact h1

theorem sym_done {f g g1 g2 : Nat → Int} {a mid b : Nat} (h0 : a ≤ mid) (h1 : mid ≤ b) (hx : ∀ x y, a ≤ x → x < mid → mid ≤ y → y < b → g x < g y) (ho : Of f g a b) (o1 : Of g g1 a mid) (u1 : Up g1 a mid) (o2 : Of g1 g2 mid b) (u2 : Up g2 mid b) : Up g2 a b ∧ Of f g2 a b := by
  refine ⟨fun x y q1 q2 q3 => ?_, (ho.trans (o1.wide (Nat.le_refl _) h1)).trans (o2.wide h0 (Nat.le_refl _))⟩
  by_cases c1 : y < mid
  · rw [o2.2 x (by omega), o2.2 y (by omega)]; exact u1 x y q1 q2 c1
  · by_cases c2 : x < mid
    · rw [o2.2 x (by omega)]
      obtain ⟨x', p1, p2, e⟩ := o1.1 x q1 c2
      obtain ⟨y', r1, r2, e2⟩ := o2.1 y (by omega) q3
      rw [e, e2, o1.2 y' (by omega)]
      exact hx x' y' p1 p2 r1 r2
    · exact u2 x y (by omega) q2 q3

/-! Blocks. -/
/-- Within each block of bs places, as far as it lies in [lo, hi), it rises. -/
def Bl (f : Nat → Int) (bs lo hi : Nat) : Prop := ∀ q x y, q * bs ≤ x → x < y → y < q * bs + bs → lo ≤ x → y < hi → f x < f y
theorem bl_none (f : Nat → Int) (bs : Nat) : Bl f bs 0 0 := fun q x y _ _ _ _ h => by omega
theorem bl_next {f g : Nat → Int} {bs t b : Nat} (h : Bl f bs 0 (t * bs)) (hu : Up g (t * bs) b) (ho : Of f g (t * bs) b) : Bl g bs 0 b := by
  intro q x y h1 h2 h3 _ h5
  by_cases c : x < t * bs
  · have hq : q < t := by
      rcases Nat.lt_or_ge q t with k | k
      · exact k
      · have := Nat.mul_le_mul_right bs k
        omega
    have := Nat.mul_le_mul_right bs (show q + 1 ≤ t from hq)
    rw [Nat.succ_mul] at this
    rw [ho.2 x (by omega), ho.2 y (by omega)]
    exact h q x y h1 h2 h3 (Nat.zero_le _) (by omega)
  · exact hu x y (by omega) h2 h5
theorem bl_later {f g : Nat → Int} {bs a b n : Nat} (hab : a ≤ b) (h : Bl f bs a n) (ho : Of f g a b) : Bl g bs b n := by
  intro q x y h1 h2 h3 h4 h5
  rw [ho.2 x (by omega), ho.2 y (by omega)]
  exact h q x y h1 h2 h3 (by omega) h5
theorem bl_up {f : Nat → Int} {bs lo n q b : Nat} (h : Bl f bs lo n) (hlo : lo ≤ q * bs) (hb : b ≤ n) (hq : b ≤ q * bs + bs) : Up f (q * bs) b := fun x y h1 h2 h3 => h q x y h1 h2 (by omega) (by omega) (by omega)
theorem bl_whole {f : Nat → Int} {bs n : Nat} (h : Bl f bs 0 n) (hn : n ≤ bs) : Up f 0 n := fun x y _ h2 h3 => h 0 x y (by omega) h2 (by omega) (by omega) h3
theorem bl_start {f : Nat → Int} {bs n : Nat} (h : Bl f bs 0 n) : Bl f (2 * bs) 0 0 ∧ Bl f bs 0 n := ⟨fun q x y _ _ _ _ h => by omega, h⟩
/-- The last of them, if it is one. -/
theorem bl_rest {f : Nat → Int} {bs t n : Nat} (hb : n ≤ t * (2 * bs) + bs) (h1 : Bl f (2 * bs) 0 (t * (2 * bs))) (h2 : Bl f bs (t * (2 * bs)) n) : Bl f (2 * bs) 0 n := by
  intro q x y p1 p2 p3 _ p5
  by_cases c : x < t * (2 * bs)
  · have hq : q < t := by
      rcases Nat.lt_or_ge q t with k | k
      · exact k
      · have := Nat.mul_le_mul_right (2 * bs) k
        omega
    have := Nat.mul_le_mul_right (2 * bs) (show q + 1 ≤ t from hq)
    rw [Nat.succ_mul] at this
    exact h1 q x y p1 p2 p3 (Nat.zero_le _) (by omega)
  · have e : 2 * t * bs = t * (2 * bs) := by rw [Nat.mul_comm 2 t, Nat.mul_assoc]
    exact h2 (2 * t) x y (by omega) p2 (by omega) (by omega) p5
theorem bl_half {f : Nat → Int} {bs t n b : Nat} (h : Bl f bs (t * (2 * bs)) n) (hb : b ≤ n) (hq : b ≤ t * (2 * bs) + 2 * bs) (hm : t * (2 * bs) + bs ≤ n) : Up f (t * (2 * bs)) (t * (2 * bs) + bs) ∧ Up f (t * (2 * bs) + bs) b := by
  have e : 2 * t * bs = t * (2 * bs) := by rw [Nat.mul_comm 2 t, Nat.mul_assoc]
  have e2 : (2 * t + 1) * bs = t * (2 * bs) + bs := by rw [Nat.succ_mul, e]
  constructor
  · have := bl_up (q := 2 * t) (b := t * (2 * bs) + bs) h (by omega) hm (by omega)
    rw [e] at this
    exact this
  · have := bl_up (q := 2 * t + 1) (b := b) h (by omega) hb (by omega)
    rw [e2] at this
    exact this

/-! Searches by halves. -/
end Go.Proofs.YtbcnlggkoidmmaaGreatDoor.SortMath
