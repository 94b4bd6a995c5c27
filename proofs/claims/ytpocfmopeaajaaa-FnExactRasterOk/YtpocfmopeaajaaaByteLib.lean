/-
  Texts as lists of numbers, and lists of bytes that a call made itself.
-/
import Derived.Test.YtpocfmopeaajaaaRows
import Derived.Test.YtpocfmopeaajaaaBase
import Derived.Test.YtpocfmopeaajaaaOwnLib
import Derived.Test.YtpocfmopeaajaaaByteDef
import Derived.WalkKit
import Derived.ProofKit
import Derived.WalkLawsBesides
import Derived.Below
import Derived.Lib.SmallJoins
namespace Go.Proofs.Ytpocfmopeaajaaa
open Go.RowKit Go.Joins TokMath

theorem info_byte : (Try.prog.info? 5).map (fun i => (i.zero, i.size, i.bytes)) = some (some (.int .u8 0), 1, 1) := by kernel_rfl
/-- The numbers of a text. -/
def bytesOf (s : ByteArray) : List Int := s.data.toList.map fun b => (b.toNat : Int)
theorem bytesOf_length (s : ByteArray) : (bytesOf s).length = s.size := by simp [bytesOf]
theorem bytesOf_bytes (s : ByteArray) : Bytes (bytesOf s) := by
  intro x hx
  obtain ⟨b, _, rfl⟩ := List.mem_map.mp hx
  have := b.toNat_lt
  omega
theorem str_back (s : ByteArray) : strOfNums (bytesOf s) = s := by
  obtain ⟨d⟩ := s
  have e : ((bytesOf ⟨d⟩).map fun n => UInt8.ofNat n.toNat) = d.toList := by
    show (d.toList.map fun b => (b.toNat : Int)).map (fun n => UInt8.ofNat n.toNat) = d.toList
    rw [List.map_map]
    refine (List.map_congr_left (fun b _ => ?_)).trans (List.map_id _)
    show UInt8.ofNat ((b.toNat : Int)).toNat = id b
    rw [Int.toNat_natCast, UInt8.ofNat_toNat]
    rfl
  unfold strOfNums
  rw [e]
theorem bytesOf_str {O : List Int} (h : Bytes O) : bytesOf (strOfNums O) = O := by
  unfold bytesOf
  rw [strOfNums_data, List.map_map]
  refine (List.map_congr_left (fun x hx => ?_)).trans (List.map_id _)
  have := h x hx
  show ((UInt8.ofNat x.toNat).toNat : Int) = x
  rw [UInt8.toNat_ofNat', Nat.mod_eq_of_lt (by omega)]
  omega
/-- The cells of bytes. -/
def u8l (O : List Int) : List Value := O.map (Value.int .u8)
theorem u8l_length (O : List Int) : (u8l O).length = O.length := by simp [u8l]
theorem u8l_app (O : List Int) (x : Int) : u8l O ++ [.int .u8 x] = u8l (O ++ [x]) := by simp [u8l]

/-- A list of bytes of the call's own, at the head of block g. -/
def BOwn (w : World) (base g n cap : Nat) (O : List Int) : Prop := n = O.length ∧ Own 5 w base g (.slice (some ⟨g, 0, none⟩) n cap) (u8l O)
theorem BOwn.lt {w : World} {base g n cap : Nat} {O : List Int} (h : BOwn w base g n cap O) : g < w.heap.size := h.2.lt
theorem BOwn.base_le {w : World} {base g n cap : Nat} {O : List Int} (h : BOwn w base g n cap O) : base ≤ g := h.2.base_le
theorem BOwn.keep {w w' : World} {base g n cap : Nat} {O : List Int} (h : BOwn w base g n cap O) (hk : w'.heap[g]? = w.heap[g]?) : BOwn w' base g n cap O := ⟨h.1, h.2.keep hk⟩
theorem BOwn.called {w w' : World} {base g n cap : Nat} {O : List Int} (h : BOwn w base g n cap O) (hb : Below w.heap.size w w') : BOwn w' base g n cap O := h.keep (hb.block g h.lt)
theorem BOwn.cell {w : World} {base g n cap : Nat} {O : List Int} (h : BOwn w base g n cap O) (j : Nat) (hj : j < n) : w.cell? ⟨g, j, none⟩ = some (.int .u8 (O.getD j 0)) := by
  have hl : j < O.length := by have := h.1; omega
  have hj' : j < (u8l O).length := by rw [u8l_length]; exact hl
  rw [h.2.cell j hj', List.getD_eq_getElem?_getD, List.getElem?_eq_getElem hl]
  simp [u8l]
theorem BOwn.room {w : World} {base g n cap : Nat} {O : List Int} (h : BOwn w base g n cap O) : n ≤ cap := by
  obtain ⟨hn, cap', cur, fz, hv, _, _, _, hc, _⟩ := h
  cases hv
  rw [u8l_length] at hc
  omega
/-- '[]byte(s)'. -/
theorem bown_of_text (w : World) (s : ByteArray) (hs : s.size ≤ 1048576) : ∃ W1 cap, (convert 9 22 (.string s)).run Try.prog w = .ok (.slice (some ⟨w.heap.size, 0, none⟩) s.size cap) W1 ∧ BOwn W1 w.heap.size w.heap.size s.size cap (bytesOf s) ∧ Below w.heap.size w W1 := by
  refine ⟨_, _, run_bytes_of_string (P := Try.prog) w 9 22 5 s Try.underlying9 Try.underlying22 Try.underlying5, ⟨(bytesOf_length s).symm, ?_⟩, ?_⟩
  · have h := own_of_bytes (base := w.heap.size) w 5 s (by unfold maxLen; omega) (Nat.le_refl _)
    have e : (s.data.toList.map fun b => Value.int .u8 (b.toNat : Int)) = u8l (bytesOf s) := by unfold u8l bytesOf; rw [List.map_map]; rfl
    rw [e] at h
    exact h
  · exact (Below.refl _ _).drew.alloc (Nat.le_refl _) _
/-- 'string(v[k:])'. -/
theorem bown_text {w : World} {base g n cap k c : Nat} {O : List Int} (h : BOwn w base g n cap O) (hk : k ≤ n) : (convert 22 9 (.slice (some ⟨g, k, none⟩) (n - k) c)).run Try.prog w = .ok (.string (strOfNums (O.drop k))) w := by
  refine run_convert_bytes_arg w 22 5 Try.underlying22 Try.underlying5 g k _ c (O.drop k) (by rw [List.length_drop, ← h.1]) (fun i hi => ?_) 9 Try.underlying9
  rw [h.cell (k + i) (by omega), List.getD_eq_getElem?_getD, List.getD_eq_getElem?_getD, List.getElem?_drop]
/-- 'append(v, x)' of bytes. -/
theorem bytes_append {w : World} {base g n cap : Nat} {O : List Int} {ops : Array Oper} {rest : List Oper} {o : Oper} {a : Act} {Q : Exit → Act → World → Prop} (hgd : o.guard = none) (s y : Operand)
    (hop : o.op = .call { callee := .builtin .append, args := #[s, y], argTypes := #[22, 22] }) (hs : a.eval s = .slice (some ⟨g, 0, none⟩) n cap) (h : BOwn w base g n cap O) (b c : Nat) (x : Int) (hy : a.eval y = .slice (some ⟨b, 0, none⟩) 1 c) (hx : w.cell? ⟨b, 0, none⟩ = some (.int .u8 x)) (h63 : n ≤ 1048576)
    (hK : ∀ g' cap' w', BOwn w' base g' (n + 1) cap' (O ++ [x]) → (g' = g ∨ w.heap.size ≤ g') → w.grownBy w' (some g) → wpList Try.prog ops Q rest (a.put o.dst (.slice (some ⟨g', 0, none⟩) (n + 1) cap')) w') : wpList Try.prog ops Q (o :: rest) a w := by
  obtain ⟨i0, hi0, hz0, hz1, hz2⟩ := info_parts info_byte
  obtain ⟨hn, ho⟩ := h
  have hl : (u8l O).length = n := by rw [u8l_length, hn]
  refine wpList_append1 hgd s y 22 hop i0 (.int .u8 0) 1 Try.underlying22 hi0 hz0 hz1 hz2 rfl hs ho ⟨b, 0, none⟩ c (.int .u8 x) hy hx rfl rfl (by rw [hl]; unfold maxLen; omega) (by rw [hl]; omega) ?_
  intro g' v' w' hO hg hgr
  obtain ⟨cap', hv⟩ := hO.form
  rw [u8l_app] at hO
  rw [List.length_append, List.length_singleton, hl] at hv
  subst hv
  exact hK g' cap' w' ⟨by rw [List.length_append, List.length_singleton, hn], hO⟩ hg hgr

end Go.Proofs.Ytpocfmopeaajaaa
