/-
  A raster's passes as one list, and the raster out of a list: plain numbers. Nothing here speaks of the program.
-/
import Derived.Test.YtmanafegckibjaaDoorRows
import Derived.Test.YtmanafegckibjaaDoorRastMath
import Derived.Test.YtmanafegckibjaaDoorRasterMath
import Derived.Test.YtmanafegckibjaaDoorPassMath
import Derived.Test.YtmanafegckibjaaDoorRasList
import Derived.Test.YtmanafegckibjaaDoorPassList
import Derived.WalkKit
import Derived.Below
namespace Go.Proofs.YtmanafegckibjaaDoor
open Go.RowKit RastMath PassMath

/-- The passes of a raster, as one list; of one that is not right there are none. -/
def passesR (r : Ras) : Nat → Ras := passR r.x0.toNat r.x1.toNat r.x2 r.x3 (chan r.x2).toNat r.f
def RasOk (r : Ras) : Prop := RasR r.x0 r.x1 r.x2 r.x3 r.n r.f
/-- What a raster that is right has besides. -/
theorem ras_parts {r : Ras} (h : RasOk r) : ∃ W H N : Nat, r.x0 = (W : Int) ∧ r.x1 = (H : Int) ∧ chan r.x2 = (N : Int) ∧ (1 ≤ W ∧ W ≤ 24) ∧ (1 ≤ H ∧ H ≤ 24) ∧ (1 ≤ N ∧ N ≤ 4) ∧ r.n = W * H * N ∧ passesR r = passR W H r.x2 r.x3 N r.f := by
  obtain ⟨h0, h1, h2, h3, _⟩ := h
  have hc1 := chan_pos h2
  have hc2 := chan_range r.x2
  unfold SideR at h0 h1
  refine ⟨r.x0.toNat, r.x1.toNat, (chan r.x2).toNat, by omega, by omega, by omega, by omega, by omega, by omega, ?_, rfl⟩
  have e0 : ((r.x0.toNat : Nat) : Int) = r.x0 := by omega
  have e1 : ((r.x1.toNat : Nat) : Int) = r.x1 := by omega
  have e2 : (((chan r.x2).toNat : Nat) : Int) = chan r.x2 := by omega
  have : (r.n : Int) = ((r.x0.toNat * r.x1.toNat * (chan r.x2).toNat : Nat) : Int) := by
    rw [h3, Int.natCast_mul, Int.natCast_mul, e0, e1, e2]
  exact Int.ofNat.inj this
theorem passes_small {r : Ras} (h : RasOk r) (p : Nat) : (passesR r p).n ≤ 2304 := by
  obtain ⟨W, H, N, _, _, _, hW, hH, hN, _, e⟩ := ras_parts h
  rw [e]
  show pw W H p * ph W H p * N ≤ 2304
  have h1 := Nat.mul_le_mul (Nat.le_trans (pw_le W H p) hW.2) (Nat.le_trans (ph_le W H p) hH.2)
  exact Nat.le_trans (Nat.mul_le_mul h1 hN.2) (by omega)
/-- The raster that a list of passes would come of. -/
def joinR (W H : Int) (R : Nat → Ras) : Ras := ⟨W, H, (R 0).x2, (R 0).x3, W.toNat * H.toNat * (chan (R 0).x2).toNat, joinF W.toNat H.toNat (chan (R 0).x2).toNat (fun p k => (R p).f k)⟩
/-- Is there a right raster of this size whose passes these are? -/
def FromR (W H : Int) (m : Nat) (R : Nat → Ras) : Prop := m = 7 ∧ RasOk (joinR W H R) ∧ ∀ p, p < 7 → (R p).same (passesR (joinR W H R) p)
theorem RasOk.same {r s : Ras} (h : RasOk r) (e : r.same s) : RasOk s := by
  obtain ⟨e0, e1, e2, e3, e4, e5⟩ := e
  unfold RasOk RasR at h ⊢
  rw [← e0, ← e1, ← e2, ← e3, ← e4]
  refine ⟨h.1, h.2.1, h.2.2.1, h.2.2.2.1, fun i hi => ?_⟩
  rw [← e5 i hi]
  exact h.2.2.2.2 i hi
/-- P14: a right raster comes back from its passes. -/
theorem join_passes {r : Ras} (h : RasOk r) {R : Nat → Ras} (hR : ∀ p, p < 7 → (R p).same (passesR r p)) : (joinR r.x0 r.x1 R).same r ∧ FromR r.x0 r.x1 7 R := by
  obtain ⟨W, H, N, e0, e1, e2, hW, hH, hN, hn, ep⟩ := ras_parts h
  have c2 : (R 0).x2 = r.x2 := (hR 0 (by omega)).2.2.1
  have c3 : (R 0).x3 = r.x3 := (hR 0 (by omega)).2.2.2.1
  have ej : joinR r.x0 r.x1 R = ⟨r.x0, r.x1, r.x2, r.x3, W * H * N, joinF W H N (fun p k => (R p).f k)⟩ := by
    unfold joinR
    rw [c2, c3, e0, e1, e2]
    rfl
  have hs : (joinR r.x0 r.x1 R).same r := by
    rw [ej]
    refine ⟨rfl, rfl, rfl, rfl, hn.symm, fun i hi => ?_⟩
    show joinF W H N (fun p k => (R p).f k) i = r.f i
    refine pass_join hN.1 hW hH.2 r.f (fun p hp k hk => ?_) hi
    have q := (hR p hp)
    rw [ep] at q
    exact q.2.2.2.2.2 k (by rw [q.2.2.2.2.1]; exact hk)
  refine ⟨hs, rfl, h.same hs.symm, fun p hp => ?_⟩
  refine (hR p hp).trans ?_
  rw [ep]
  unfold passesR
  rw [ej]
  show (passR W H r.x2 r.x3 N r.f p).same (passR r.x0.toNat r.x1.toNat r.x2 r.x3 (chan r.x2).toNat (joinF W H N fun p k => (R p).f k) p)
  rw [e0, e1, e2]
  refine ⟨rfl, rfl, rfl, rfl, rfl, fun k hk => ?_⟩
  have hk' : k < pw W H p * ph W H p * N := hk
  show passF W H N r.f p k = passF W H N (joinF W H N fun p k => (R p).f k) p k
  rw [join_pass hN.1 hW.2 hH.2 _ hp hk']
  have q := hR p hp
  rw [ep] at q
  exact (q.2.2.2.2.2 k (by rw [q.2.2.2.2.1]; exact hk)).symm
end Go.Proofs.YtmanafegckibjaaDoor
