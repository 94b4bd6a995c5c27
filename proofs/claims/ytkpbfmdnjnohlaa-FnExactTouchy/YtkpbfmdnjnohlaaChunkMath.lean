/-
  Chunks and their file: plain texts. Nothing here speaks of the program.
-/
import Derived.Test.YtkpbfmdnjnohlaaOutMath
import Derived.Test.YtkpbfmdnjnohlaaBigMath
import Derived.Test.YtkpbfmdnjnohlaaBigTextMath
import Derived.Test.YtkpbfmdnjnohlaaCrcMath
import Derived.WalkKit
namespace Go.Proofs.Ytkpbfmdnjnohlaa
namespace ChunkMath
open Go.RowKit OutMath BigMath BigTextMath CrcMath

abbrev LetterR (b : Nat) : Prop := 65 ≤ b ∧ b ≤ 90 ∨ 97 ≤ b ∧ b ≤ 122
/-- Is a name right? -/
abbrev NameR (n : ByteArray) : Prop := n.size = 4 ∧ LetterR (byteAt n 0) ∧ LetterR (byteAt n 1) ∧ LetterR (byteAt n 2) ∧ LetterR (byteAt n 3) ∧ byteAt n 2 ≤ 90
def big4 (n : Int) : ByteArray := strOfNums (low n 4)
/-- A chunk: its name and its data. -/
abbrev Chk := ByteArray × ByteArray
def sumT (n d : ByteArray) : ByteArray := big4 (crc 0 (n ++ d) : Int)
def chunkT (c : Chk) : ByteArray := big4 (c.2.size : Int) ++ c.1 ++ c.2 ++ sumT c.1 c.2
def signT : ByteArray := ⟨#[137, 80, 78, 71, 13, 10, 26, 10]⟩
/-- The file of a list of chunks. -/
def fileT (L : List Chk) : ByteArray := L.foldl (fun a c => a ++ chunkT c) signT
def FileR (L : List Chk) : Prop := L.length ≤ 40 ∧ (∀ c ∈ L, NameR c.1) ∧ (fileT L).size ≤ 12000
/-- The chunk at a place, and the place behind it; or what is wrong. -/
def stepE (t : ByteArray) (a : Nat) : Except Nat (Chk × Nat) :=
  if a + 4 ≤ t.size ∧ rb t a 4 ≤ (t.size : Int) - a - 12 then
    if NameR (t.extract (a + 4) (a + 8)) then
      if sumT (t.extract (a + 4) (a + 8)) (t.extract (a + 8) (a + 8 + (rb t a 4).toNat)) = t.extract (a + 8 + (rb t a 4).toNat) (a + 12 + (rb t a 4).toNat) then
        .ok ((t.extract (a + 4) (a + 8), t.extract (a + 8) (a + 8 + (rb t a 4).toNat)), a + 12 + (rb t a 4).toNat)
      else .error 4
    else .error 3
  else .error 2
def readF (t : ByteArray) : Nat → Nat → List Chk → Except Nat (List Chk)
  | 0, _, _ => .error 9
  | f + 1, a, L => if a < t.size then (if L.length = 40 then .error 5 else match stepE t a with
    | .ok p => readF t f p.2 (L ++ [p.1])
    | .error e => .error e) else .ok L
/-- What a text tells: its chunks, or a code. -/
def readE (t : ByteArray) : Except Nat (List Chk) := if t.size ≤ 12000 ∧ 8 ≤ t.size ∧ t.extract 0 8 = signT then readF t 41 8 [] else .error 1

theorem bx_ext {a b : ByteArray} (h : a.data.toList = b.data.toList) : a = b := by
  obtain ⟨x⟩ := a
  obtain ⟨y⟩ := b
  congr 1
  exact Array.ext' h
theorem bx_app (a b : ByteArray) : (a ++ b).data.toList = a.data.toList ++ b.data.toList := by
  obtain ⟨x⟩ := a
  obtain ⟨y⟩ := b
  show (ByteArray.mk x ++ ByteArray.mk y).data.toList = _
  simp
theorem bx_cut (a : ByteArray) (i j : Nat) : (a.extract i j).data.toList = (a.data.toList.drop i).take (j - i) := by
  rw [ByteArray.data_extract, Array.toList_extract, List.extract_eq_take_drop]
theorem bx_len (a : ByteArray) : a.data.toList.length = a.size := by simp
theorem bx_get (a : ByteArray) (i : Nat) : a.data[i]? = a.data.toList[i]? := (Array.getElem?_toList).symm
theorem bx_size (a b : ByteArray) : (a ++ b).size = a.size + b.size := by rw [← bx_len, bx_app, List.length_append, bx_len, bx_len]
theorem bx_cutsize (a : ByteArray) (i j : Nat) (hij : i ≤ j) (h : j ≤ a.size) : (a.extract i j).size = j - i := by
  rw [← bx_len, bx_cut, List.length_take, List.length_drop, bx_len]
  omega
theorem bx_nth (s : ByteArray) (i : Nat) : byteAt s i = ((s.data.toList[i]?).getD 0).toNat := by
  unfold byteAt
  rw [bx_get]
/-- The middle of three texts. -/
theorem bx_mid (A B C : ByteArray) : (A ++ B ++ C).extract A.size (A.size + B.size) = B := by
  refine bx_ext ?_
  rw [bx_cut, bx_app, bx_app, List.append_assoc, List.drop_append_of_le_length (by rw [bx_len]; exact Nat.le_refl _), List.drop_of_length_le (by rw [bx_len]; exact Nat.le_refl _), List.nil_append, List.take_append_of_le_length (by rw [bx_len]; omega), List.take_of_length_le (by rw [bx_len]; omega)]
theorem bx_join (t : ByteArray) (i j k : Nat) (hij : i ≤ j) (hjk : j ≤ k) : t.extract i j ++ t.extract j k = t.extract i k := by
  refine bx_ext ?_
  rw [bx_app, bx_cut, bx_cut, bx_cut]
  generalize t.data.toList = L
  have h1 : L.drop j = (L.drop i).drop (j - i) := by rw [List.drop_drop]; congr 1; omega
  have h2 : k - i = (j - i) + (k - j) := by omega
  rw [h1, h2, List.take_add]
theorem bx_whole (t : ByteArray) : t.extract 0 t.size = t := by
  refine bx_ext ?_
  rw [bx_cut, List.drop_zero, List.take_of_length_le (by rw [bx_len]; omega)]
theorem rb_congr {s t : ByteArray} {a b : Nat} : ∀ k, (∀ j, j < k → byteAt s (a + j) = byteAt t (b + j)) → rb s a k = rb t b k
  | 0, _ => rfl
  | k + 1, h => by
    show 256 * rb s a k + (byteAt s (a + k) : Int) = 256 * rb t b k + (byteAt t (b + k) : Int)
    rw [rb_congr k (fun j hj => h j (by omega)), h k (by omega)]
theorem rb4_of (t : ByteArray) (a : Nat) : rb t a 4 = 16777216 * (byteAt t a : Int) + 65536 * (byteAt t (a + 1) : Int) + 256 * (byteAt t (a + 2) : Int) + (byteAt t (a + 3) : Int) := by
  show 256 * (256 * (256 * (256 * 0 + (byteAt t (a + 0) : Int)) + (byteAt t (a + 1) : Int)) + (byteAt t (a + 2) : Int)) + (byteAt t (a + 3) : Int) = _
  rw [Nat.add_zero]
  omega
theorem big4_size (n : Int) : (big4 n).size = 4 := by
  unfold big4
  rw [← bx_len, strOfNums_data, List.length_map, low_length]
theorem big4_data (n : Int) (h0 : 0 ≤ n) (h1 : n < 4294967296) : (big4 n).data.toList = [UInt8.ofNat (n / 16777216).toNat, UInt8.ofNat (n / 65536 % 256).toNat, UInt8.ofNat (n / 256 % 256).toNat, UInt8.ofNat (n % 256).toNat] := by
  unfold big4
  rw [strOfNums_data, low4 n h0 h1]
  rfl
theorem u8_of {x : Int} (h0 : 0 ≤ x) (h1 : x < 256) : ((UInt8.ofNat x.toNat).toNat : Int) = x := by
  rw [UInt8.toNat_ofNat', Nat.mod_eq_of_lt (by omega)]
  omega
/-- A number that is told in four bytes is read again. -/
theorem big4_rb (n : Int) (h0 : 0 ≤ n) (h1 : n < 4294967296) : rb (big4 n) 0 4 = n := by
  rw [rb4_of, bx_nth, bx_nth, bx_nth, bx_nth, big4_data n h0 h1]
  show 16777216 * ((UInt8.ofNat (n / 16777216).toNat).toNat : Int) + 65536 * ((UInt8.ofNat (n / 65536 % 256).toNat).toNat : Int) + 256 * ((UInt8.ofNat (n / 256 % 256).toNat).toNat : Int) + ((UInt8.ofNat (n % 256).toNat).toNat : Int) = n
  rw [u8_of (by omega) (by omega), u8_of (by omega) (by omega), u8_of (by omega) (by omega), u8_of (by omega) (by omega)]
  omega
theorem big4_inj {n m : Int} (h0 : 0 ≤ n) (h1 : n < 4294967296) (k0 : 0 ≤ m) (k1 : m < 4294967296) (e : big4 n = big4 m) : n = m := by
  rw [← big4_rb n h0 h1, ← big4_rb m k0 k1, e]
/-- What is read in four bytes is told by them. -/
theorem rb_big4 (t : ByteArray) (a : Nat) (h : a + 4 ≤ t.size) : big4 (rb t a 4) = t.extract a (a + 4) := by
  have b0 := byteAt_lt t a
  have b1 := byteAt_lt t (a + 1)
  have b2 := byteAt_lt t (a + 2)
  have b3 := byteAt_lt t (a + 3)
  have hv := rb4_of t a
  refine bx_ext ?_
  rw [big4_data _ (by omega) (by omega), bx_cut, show a + 4 - a = 4 by omega, hv]
  have hl : 4 ≤ (t.data.toList.drop a).length := by rw [List.length_drop, bx_len]; omega
  rw [bx_nth] at b0 b1 b2 b3
  have e0 : t.data.toList[a]? = (t.data.toList.drop a)[0]? := by rw [List.getElem?_drop]; rfl
  have e1 : t.data.toList[a + 1]? = (t.data.toList.drop a)[1]? := by rw [List.getElem?_drop]
  have e2 : t.data.toList[a + 2]? = (t.data.toList.drop a)[2]? := by rw [List.getElem?_drop]
  have e3 : t.data.toList[a + 3]? = (t.data.toList.drop a)[3]? := by rw [List.getElem?_drop]
  rw [bx_nth, bx_nth, bx_nth, bx_nth, e0, e1, e2, e3] at *
  generalize t.data.toList.drop a = D at *
  match D, hl with
  | x0 :: x1 :: x2 :: x3 :: r, _ =>
    simp only [List.getElem?_cons_zero, List.getElem?_cons_succ, Option.getD_some] at *
    have u : ∀ (x : UInt8) (v : Int), v = (x.toNat : Int) → UInt8.ofNat v.toNat = x := fun x v hv => by
      rw [hv, Int.toNat_natCast]
      exact UInt8.ofNat_toNat
    have l0 := UInt8.toNat_lt x0
    have l1 := UInt8.toNat_lt x1
    have l2 := UInt8.toNat_lt x2
    have l3 := UInt8.toNat_lt x3
    rw [u x0 _ (by omega), u x1 _ (by omega), u x2 _ (by omega), u x3 _ (by omega)]
    rfl
theorem sumT_size (n d : ByteArray) : (sumT n d).size = 4 := big4_size _
theorem chunkT_size (c : Chk) (h : c.1.size = 4) : (chunkT c).size = 12 + c.2.size := by
  unfold chunkT
  rw [bx_size, bx_size, bx_size, big4_size, sumT_size, h]
  omega
theorem fileT_snoc (L : List Chk) (c : Chk) : fileT (L ++ [c]) = fileT L ++ chunkT c := by
  unfold fileT
  rw [List.foldl_append]
  rfl
theorem fileT_nil : fileT [] = signT := rfl
theorem fileT_rest (L K : List Chk) : ∃ X, fileT (L ++ K) = fileT L ++ X := by
  induction K generalizing L with
  | nil => exact ⟨⟨#[]⟩, bx_ext (by rw [bx_app]; simp)⟩
  | cons c K ih =>
    obtain ⟨X, hX⟩ := ih (L ++ [c])
    refine ⟨chunkT c ++ X, ?_⟩
    rw [show L ++ c :: K = L ++ [c] ++ K by simp, hX, fileT_snoc]
    refine bx_ext ?_
    simp only [bx_app, List.append_assoc]
theorem fileT_size8 (L : List Chk) : 8 ≤ (fileT L).size := by
  obtain ⟨X, hX⟩ := fileT_rest [] L
  rw [List.nil_append] at hX
  rw [hX, bx_size]
  show 8 ≤ 8 + X.size
  omega
theorem fileT_mono (L K : List Chk) : (fileT L).size ≤ (fileT (L ++ K)).size := by
  obtain ⟨X, hX⟩ := fileT_rest L K
  rw [hX, bx_size]
  omega
/-- The chunk that stands behind a text is read. -/
theorem step_back (P X : ByteArray) (c : Chk) (hn : NameR c.1) (hd : c.2.size < 4294967296) : stepE (P ++ chunkT c ++ X) P.size = .ok (c, P.size + (chunkT c).size) := by
  have hs := chunkT_size c hn.1
  have hc : P ++ chunkT c ++ X = P ++ big4 (c.2.size : Int) ++ (c.1 ++ c.2 ++ sumT c.1 c.2 ++ X) := by
    refine bx_ext ?_
    unfold chunkT
    simp only [bx_app, List.append_assoc]
  have e0 : (P ++ chunkT c ++ X).extract P.size (P.size + 4) = big4 (c.2.size : Int) := by
    rw [hc]
    have := bx_mid P (big4 (c.2.size : Int)) (c.1 ++ c.2 ++ sumT c.1 c.2 ++ X)
    rw [big4_size] at this
    exact this
  have e1 : (P ++ chunkT c ++ X).extract (P.size + 4) (P.size + 8) = c.1 := by
    have := bx_mid (P ++ big4 (c.2.size : Int)) c.1 (c.2 ++ sumT c.1 c.2 ++ X)
    rw [bx_size, big4_size, hn.1] at this
    rw [show P ++ chunkT c ++ X = P ++ big4 (c.2.size : Int) ++ c.1 ++ (c.2 ++ sumT c.1 c.2 ++ X) from bx_ext (by unfold chunkT; simp only [bx_app, List.append_assoc])]
    exact this
  have e2 : (P ++ chunkT c ++ X).extract (P.size + 8) (P.size + 8 + c.2.size) = c.2 := by
    have := bx_mid (P ++ big4 (c.2.size : Int) ++ c.1) c.2 (sumT c.1 c.2 ++ X)
    rw [bx_size, bx_size, big4_size, hn.1] at this
    rw [show P ++ chunkT c ++ X = P ++ big4 (c.2.size : Int) ++ c.1 ++ c.2 ++ (sumT c.1 c.2 ++ X) from bx_ext (by unfold chunkT; simp only [bx_app, List.append_assoc])]
    exact this
  have e3 : (P ++ chunkT c ++ X).extract (P.size + 8 + c.2.size) (P.size + 12 + c.2.size) = sumT c.1 c.2 := by
    have := bx_mid (P ++ big4 (c.2.size : Int) ++ c.1 ++ c.2) (sumT c.1 c.2) X
    rw [bx_size, bx_size, bx_size, big4_size, hn.1, sumT_size] at this
    rw [show P ++ chunkT c ++ X = P ++ big4 (c.2.size : Int) ++ c.1 ++ c.2 ++ sumT c.1 c.2 ++ X from bx_ext (by unfold chunkT; simp only [bx_app, List.append_assoc])]
    rw [show P.size + 12 + c.2.size = P.size + 4 + 4 + c.2.size + 4 by omega]
    exact this
  have hz : (P ++ chunkT c ++ X).size = P.size + (12 + c.2.size) + X.size := by rw [bx_size, bx_size, hs]
  have er : rb (P ++ chunkT c ++ X) P.size 4 = (c.2.size : Int) := by
    have h1 := rb_big4 (P ++ chunkT c ++ X) P.size (by omega)
    rw [e0] at h1
    have b := rb_lt (P ++ chunkT c ++ X) P.size 4 (by omega)
    exact big4_inj b.1 b.2 (by omega) (by omega) h1
  unfold stepE
  rw [er, Int.toNat_natCast, e1, e2, e3, if_pos ⟨by omega, by omega⟩, if_pos hn, if_pos rfl, hs]
  congr 2
  omega
/-- What was told is read: the way on from some chunks. -/
theorem read_on (L K : List Chk) (hK : ∀ c ∈ K, NameR c.1) (hl : L.length + K.length ≤ 40) (hz : (fileT (L ++ K)).size ≤ 12000) (f : Nat) (hf : K.length < f) : readF (fileT (L ++ K)) f (fileT L).size L = .ok (L ++ K) := by
  induction K generalizing L f with
  | nil =>
    obtain ⟨g, rfl⟩ : ∃ g, f = g + 1 := ⟨f - 1, by simp at hf; omega⟩
    unfold readF
    rw [List.append_nil, if_neg (Nat.lt_irrefl _)]
  | cons c K ih =>
    obtain ⟨g, rfl⟩ : ∃ g, f = g + 1 := ⟨f - 1, by omega⟩
    have e : L ++ c :: K = L ++ [c] ++ K := by simp
    have hn := hK c (by simp)
    rw [e] at hz ⊢
    obtain ⟨X, hX⟩ := fileT_rest (L ++ [c]) K
    rw [fileT_snoc] at hX
    have hcs := chunkT_size c hn.1
    have hsz : (fileT (L ++ [c] ++ K)).size = (fileT L).size + (chunkT c).size + X.size := by rw [hX, bx_size, bx_size]
    have hst := step_back (fileT L) X c hn (by omega)
    rw [← hX] at hst
    rw [List.length_cons] at hl hf
    unfold readF
    rw [if_pos (by omega), if_neg (by omega), hst]
    have hi := ih (L ++ [c]) (fun x hx => hK x (List.mem_cons_of_mem _ hx)) (by rw [List.length_append]; show L.length + 1 + K.length ≤ 40; omega) hz g (by omega)
    rw [fileT_snoc, bx_size] at hi
    exact hi
/-- P16: chunks come back from their file. -/
theorem read_back (L : List Chk) (h : FileR L) : readE (fileT L) = .ok L := by
  obtain ⟨h1, h2, h3⟩ := h
  have h8 := fileT_size8 L
  have hs : (fileT L).extract 0 8 = signT := by
    obtain ⟨X, hX⟩ := fileT_rest [] L
    rw [List.nil_append] at hX
    have := bx_mid ⟨#[]⟩ signT X
    rw [hX]
    have e : (⟨#[]⟩ : ByteArray) ++ signT ++ X = fileT [] ++ X := by rw [fileT_nil]; exact bx_ext (by simp only [bx_app]; simp)
    rw [e] at this
    exact this
  unfold readE
  rw [if_pos ⟨h3, h8, hs⟩]
  exact read_on [] L h2 (by simpa using h1) h3 41 (by omega)
theorem step_told {t : ByteArray} {a : Nat} {c : Chk} {b : Nat} (h : stepE t a = .ok (c, b)) : NameR c.1 ∧ b ≤ t.size ∧ b = a + 12 + c.2.size ∧ t.extract a b = chunkT c := by
  unfold stepE at h
  split at h
  · rename_i h1
    split at h
    · rename_i h2
      split at h
      · rename_i h3
        have e := Except.ok.inj h
        have bd := rb_lt t a 4 (by omega)
        obtain ⟨n, hn⟩ : ∃ n : Nat, rb t a 4 = (n : Int) := ⟨(rb t a 4).toNat, by omega⟩
        have r4 := rb_big4 t a h1.1
        rw [hn] at e h1 h3 r4
        rw [Int.toNat_natCast] at e h3
        have e1 := (Prod.mk.inj e).1
        have e2 := (Prod.mk.inj e).2
        subst e1 e2
        have hz : (t.extract (a + 8) (a + 8 + n)).size = n := by
          rw [bx_cutsize t _ _ (by omega) (by omega)]
          omega
        refine ⟨h2, by omega, by show _ = a + 12 + (t.extract (a + 8) (a + 8 + n)).size; rw [hz], ?_⟩
        unfold chunkT
        show _ = big4 ((t.extract (a + 8) (a + 8 + n)).size : Int) ++ t.extract (a + 4) (a + 8) ++ t.extract (a + 8) (a + 8 + n) ++ sumT (t.extract (a + 4) (a + 8)) (t.extract (a + 8) (a + 8 + n))
        rw [hz, h3, r4, bx_join t a (a + 4) (a + 8) (by omega) (by omega), bx_join t a (a + 8) (a + 8 + n) (by omega) (by omega), bx_join t a (a + 8 + n) (a + 12 + n) (by omega) (by omega)]
      · cases h
    · cases h
  · cases h
/-- What is read tells the text: the way on. -/
theorem told_on {t : ByteArray} : ∀ (f a : Nat) (L M : List Chk), readF t f a L = .ok M → a ≤ t.size → t.extract 0 a = fileT L → L.length ≤ 40 → (∀ c ∈ L, NameR c.1) → t = fileT M ∧ M.length ≤ 40 ∧ ∀ c ∈ M, NameR c.1
  | 0, _, _, _, h, _, _, _, _ => by cases h
  | f + 1, a, L, M, h, ha, he, hl, hn => by
    unfold readF at h
    split at h
    · split at h
      · cases h
      · rename_i h40
        split at h
        · rename_i p hp
          obtain ⟨c, b⟩ := p
          obtain ⟨q1, q2, q3, q4⟩ := step_told hp
          refine told_on f b (L ++ [c]) M h q2 ?_ (by rw [List.length_append]; show L.length + 1 ≤ 40; omega) ?_
          · rw [fileT_snoc, ← he, ← q4, bx_join t 0 a b (by omega) (by omega)]
          · intro x hx
            rcases List.mem_append.mp hx with hx | hx
            · exact hn x hx
            · rw [List.mem_singleton.mp hx]
              exact q1
        · cases h
    · rename_i hlt
      obtain rfl : a = t.size := by omega
      obtain rfl := Except.ok.inj h
      rw [bx_whole] at he
      exact ⟨he, hl, hn⟩
/-- What is read is right, and the text is its file. -/
theorem read_told {t : ByteArray} {L : List Chk} (h : readE t = .ok L) : FileR L ∧ t = fileT L := by
  unfold readE at h
  split at h
  · rename_i h1
    obtain ⟨e, h2, h3⟩ := told_on 41 8 [] L h h1.2.1 (by rw [h1.2.2, fileT_nil]) (by simp) (fun c hc => by cases hc)
    exact ⟨⟨h2, h3, by rw [← e]; exact h1.1⟩, e⟩
  · cases h
end ChunkMath
end Go.Proofs.Ytkpbfmdnjnohlaa
