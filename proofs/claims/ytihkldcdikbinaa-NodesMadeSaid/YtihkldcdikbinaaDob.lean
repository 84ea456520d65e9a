/- Do of nodes, whole: bytes are written, or are not. -/
import Derived.Test.YtihkldcdikbinaaDom
namespace Go.Proofs.Ytihkldcdikbinaa
set_option linter.unusedVariables false
open Go.RowKit
namespace Nd
open Go.Proofs.Ytihkldcdikbinaa.Utf Go.Proofs.Ytihkldcdikbinaa.Txt Go.PlainAid Go.Proofs.Ytihkldcdikbinaa.Mpf

theorem Do_bytes_ok (w : World) (p : Nat) (most next bn bc : Nat) (ps : Value) (n1 : Nat) (f : Nat → Option Value) (b : Nat) (d : Is) (ks : Value) (m nn : Nat) (g : Nat → Option (List UInt8)) (o : OpV) (da : Addr) (D : List UInt8) (dc : Nat) (hk : o.kind = 6) (hdt : o.data = .slice (some da) D.length dc)
    (hp : StAt w p 0 most next bn ps bc) (hmn : Mp nK w bn n1 f) (hn : NdAt w b d 0 ks m) (hf : f o.path = some (ptr b)) (hx : o.path < 18446744073709551616) (hm : Mp nK w m nn (fun i => (g i).map blkV)) (hmb : m ≠ bn) (hg : ∀ i l, g i = some l → l.length = 256)
    (hsrc : ∀ j u, (b8 D).toList[j]? = some u → w.cell? (da.add j) = some u) (hda : da.block < w.heap.size) (hdb : da.block ≠ b)
    (hdir : isDirM d.mode = false) (hD : 0 < D.length) (hfit : D.length ≤ 256 - o.offset % 256) (hbig : o.offset ≤ 65536 - D.length) (hD2 : D.length ≤ 256) (nn' : Nat) (hnn : nn' = if (g (o.offset / 256)).isSome then nn else nn + 1) :
    Calls Try.prog 22 #[.pointer (some ⟨p, 0, none⟩), .agg (opL o).toArray] w fun e w' => e = .returned (.tuple #[.int .u64 o.path, .int .i64 0]) ∧ NdAt w' b { d with length := max d.length (o.offset + D.length) } 0 ks m ∧
      Mp nK w' m nn' (upd (fun i => (g i).map blkV) (o.offset / 256) (some (blkV (over8 ((g (o.offset / 256)).getD z256) (o.offset % 256) D)))) ∧ Kept [b, m] w w' := by
  have hmb2 : m ≠ b := fun e => hm.ne hn e
  refine (do_6 w p (opL o).toArray (fun r er w' => r = o.path ∧ er = 0 ∧ NdAt w' b { d with length := max d.length (o.offset + D.length) } 0 ks m ∧
      Mp nK w' m nn' (upd (fun i => (g i).map blkV) (o.offset / 256) (some (blkV (over8 ((g (o.offset / 256)).getD z256) (o.offset % 256) D)))) ∧ Kept [b, m] w w') rfl (by simp [opL, hk]) ?_).mono ?_
  · intro W0 k0
    refine (node_ok W0 p most next bn bc ps n1 o.path b f (opL o).toArray 49 d ks m (fun w1 => NdAt w1 b { d with length := max d.length (o.offset + D.length) } 1 ks m ∧
      Mp nK w1 m nn' (upd (fun i => (g i).map blkV) (o.offset / 256) (some (blkV (over8 ((g (o.offset / 256)).getD z256) (o.offset % 256) D)))) ∧ Kept [b, m] W0 w1) rfl rfl (hp.kept k0 (by simp)) (hmn.kept k0 (by simp)) (hn.kept k0 (by simp)) hf hx enter_bytes ?_).mono ?_
    · intro W hP hN hB hK
      unfold DoesN
      have kW : Kept [b] w W := (k0.mono (fun i hi => by cases hi)).trans hK (fun i hi => Or.inl hi)
      refine (bytes_ok W b d 1 ks m nn g (opL o).toArray o.offset da D dc rfl rfl (by simp [opL, hdt]) hN (hm.kept kW (fun h => by rw [List.mem_singleton] at h; exact hmb2 h)) hg ?_ (Nat.lt_of_lt_of_le hda kW.size) hdir hD hfit hbig hD2 nn' hnn).mono ?_
      · intro j u hj
        refine (World.cell?_of_block (kW.block _ ?_ ?_)).trans (hsrc j u hj)
        · have e : (da.add j).block = da.block := by unfold Addr.add; split <;> rfl
          rw [e]; exact hda
        · have e : (da.add j).block = da.block := by unfold Addr.add; split <;> rfl
          rw [e, List.mem_singleton]; exact hdb
      · rintro e w' ⟨rfl, N', M', k'⟩
        have hb0 := hB.lt
        have hbl := hn.lt
        have hml := hm.lt
        have hs0 := k0.size
        exact ⟨rfl, N'.cell 0 rfl, N'.frozen 0, hB.kept k' (fun h => by simp at h; omega), N', M', (hK.mono (fun i hi => Or.inl (by rw [List.mem_singleton] at hi; simp [hi]))).trans k' (fun i hi => Or.inl hi)⟩
    · rintro e w' ⟨w1, rfl, ⟨N', M', k'⟩, rfl⟩
      refine ⟨o.path, 0, rfl, rfl, rfl, Bx.set N' 0 _, M'.setCell (a := ⟨b, 0, none⟩) (fun e => hmb2 e.symm) _, ?_⟩
      exact ((k0.mono (fun i hi => by cases hi)).trans k' (fun i hi => Or.inl hi)).setCell (p := ⟨b, 0, none⟩) (Or.inl (by simp)) _
  · rintro e w' ⟨r, er, rfl, rfl, rfl, h⟩
    exact ⟨rfl, h⟩

theorem Do_bytes_84 (w : World) (p : Nat) (most next bn bc : Nat) (ps : Value) (n1 : Nat) (f : Nat → Option Value) (b : Nat) (d : Is) (ks : Value) (m nn : Nat) (g : Nat → Option (List UInt8)) (o : OpV) (da : Addr) (D : List UInt8) (dc : Nat) (hk : o.kind = 6) (hdt : o.data = .slice (some da) D.length dc)
    (hp : StAt w p 0 most next bn ps bc) (hmn : Mp nK w bn n1 f) (hn : NdAt w b d 0 ks m) (hf : f o.path = some (ptr b)) (hx : o.path < 18446744073709551616) (hm : Mp nK w m nn (fun i => (g i).map blkV)) (hg : ∀ i l, g i = some l → l.length = 256)
    (hsrc : ∀ j u, (b8 D).toList[j]? = some u → w.cell? (da.add j) = some u) (hda : da.block < w.heap.size) (hdb : da.block ≠ b)
    (hdir : isDirM d.mode = false) (hD : 0 < D.length) (hfit : 256 - o.offset % 256 < D.length) (hD2 : D.length < 1000000000) (hoff : o.offset < 1000000000) :
    Calls Try.prog 22 #[.pointer (some ⟨p, 0, none⟩), .agg (opL o).toArray] w fun e w' => e = .returned (.tuple #[.int .u64 0, .int .i64 84]) ∧ Kept [] w w' := by
  have hmb2 : m ≠ b := fun e => hm.ne hn e
  refine (do_6 w p (opL o).toArray (fun r er w' => r = 0 ∧ er = 84 ∧ Kept [] w w') rfl (by simp [opL, hk]) ?_).mono ?_
  · intro W0 k0
    have hn0 : NdAt W0 b d 0 ks m := hn.kept k0 (by simp)
    refine (node_err W0 p most next bn bc ps n1 o.path b f (opL o).toArray 49 d ks m (fun w1 => NdAt w1 b d 1 ks m ∧ Kept [b] W0 w1) 84 (by decide) rfl rfl (hp.kept k0 (by simp)) (hmn.kept k0 (by simp)) hn0 hf hx enter_bytes ?_).mono ?_
    · intro W hP hN hB hK
      unfold DoesN
      have kW : Kept [b] w W := (k0.mono (fun i hi => by cases hi)).trans hK (fun i hi => Or.inl hi)
      refine (bytes_84 W b d 1 ks m nn g (opL o).toArray o.offset da D dc rfl rfl (by simp [opL, hdt]) hN (hm.kept kW (fun h => by rw [List.mem_singleton] at h; exact hmb2 h)) hg ?_ (Nat.lt_of_lt_of_le hda kW.size) hdir hD hfit hD2 hoff).mono ?_
      · intro j u hj
        refine (World.cell?_of_block (kW.block _ ?_ ?_)).trans (hsrc j u hj)
        · have e : (da.add j).block = da.block := by unfold Addr.add; split <;> rfl
          rw [e]; exact hda
        · have e : (da.add j).block = da.block := by unfold Addr.add; split <;> rfl
          rw [e, List.mem_singleton]; exact hdb
      · rintro e w' ⟨rfl, k'⟩
        have N' : NdAt w' b d 1 ks m := hN.kept k' (by simp)
        exact ⟨rfl, N'.cell 0 rfl, N'.frozen 0, hB.kept k' (by simp), N', hK.trans k' (fun i hi => by cases hi)⟩
    · rintro e w' ⟨w1, rfl, ⟨N', k'⟩, rfl⟩
      have N2 : NdAt (w1.setCell ⟨b, 0, none⟩ (.int .i32 0)) b d 0 ks m := Bx.set N' 0 _
      exact ⟨0, 84, rfl, rfl, rfl, k0.trans (Kept.less (k'.setCell (p := ⟨b, 0, none⟩) (Or.inl (by simp)) _) (Eq.trans N2 hn0.symm)) (fun i hi => by cases hi)⟩
  · rintro e w' ⟨r, er, rfl, rfl, rfl, h⟩
    exact ⟨rfl, h⟩
end Nd
end Go.Proofs.Ytihkldcdikbinaa
