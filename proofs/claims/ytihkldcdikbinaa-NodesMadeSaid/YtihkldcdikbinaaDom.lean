/- Do of nodes, whole: a node is made, or is not; bytes are written, or are not. -/
import Derived.Test.YtihkldcdikbinaaNew
namespace Go.Proofs.Ytihkldcdikbinaa
set_option linter.unusedVariables false
open Go.RowKit
namespace Nd
open Go.Proofs.Ytihkldcdikbinaa.Utf Go.Proofs.Ytihkldcdikbinaa.Txt Go.PlainAid Go.Proofs.Ytihkldcdikbinaa.Mpf

theorem enter_make (args : Array Value) (w : World) : (callFunc 43 args).run Try.prog w = .ok (.enter 43 args) w := Go.MuLone.run_callFunc_enter Try.func43 (by kernel_rfl) rfl args w
theorem enter_bytes (args : Array Value) (w : World) : (callFunc 49 args).run Try.prog w = .ok (.enter 49 args) w := Go.MuLone.run_callFunc_enter Try.func49 (by kernel_rfl) rfl args w
theorem opL_size (o : OpV) : (opL o).toArray.size = 20 := rfl

section
variable (w : World) (p : Nat) (most next bn bc : Nat) (ps : Value) (nc : Nat) (fc : Nat × ByteArray → Option Value) (n1 : Nat) (f : Nat → Option Value) (b : Nat) (d : Is) (ks : Value) (m : Nat) (o : OpV)

theorem unlocked {W w1 : World} (p b : Nat) (hbp : b ≠ p) (k : Kept [] W w1) (kW : Kept [p, b] w W) (most next bn bc : Nat) (ps : Value) (d : Is) (ks : Value) (m : Nat) (hp : StAt w p 0 most next bn ps bc) (hn : NdAt w b d 0 ks m) (hP : StAt W p 1 most next bn ps bc) (hN : NdAt W b d 1 ks m) :
    Kept [] w ((w1.setCell ⟨b, 0, none⟩ (.int .i32 0)).setCell ⟨p, 0, none⟩ (.int .i32 0)) := by
  have P1 : StAt w1 p 1 most next bn ps bc := hP.kept k (by simp)
  have N1 : NdAt w1 b d 1 ks m := hN.kept k (by simp)
  have P2 : StAt ((w1.setCell ⟨b, 0, none⟩ (.int .i32 0)).setCell ⟨p, 0, none⟩ (.int .i32 0)) p 0 most next bn ps bc := Bx.set (Bx.other P1 (a := ⟨b, 0, none⟩) hbp _) 0 _
  have N2 : NdAt ((w1.setCell ⟨b, 0, none⟩ (.int .i32 0)).setCell ⟨p, 0, none⟩ (.int .i32 0)) b d 0 ks m := Bx.other (Bx.set N1 0 _) (a := ⟨p, 0, none⟩) hbp.symm _
  have K : Kept [p, b] w ((w1.setCell ⟨b, 0, none⟩ (.int .i32 0)).setCell ⟨p, 0, none⟩ (.int .i32 0)) := ((kW.trans k (fun i hi => by cases hi)).setCell (p := ⟨b, 0, none⟩) (Or.inl (by simp)) _).setCell (p := ⟨p, 0, none⟩) (Or.inl (by simp)) _
  exact Kept.less (Kept.less K (Eq.trans P2 hp.symm)) (Eq.trans N2 hn.symm)

theorem Do_make_not (code : Int) (hk : o.kind = 1) (hp : StAt w p 0 most next bn ps bc) (hc : Mp pK w bc nc fc) (hmn : Mp nK w bn n1 f) (hn : NdAt w b d 0 ks m) (hf : f o.path = some (ptr b)) (hx : o.path < 18446744073709551616)
    (hM : ∀ W, StAt W p 1 most next bn ps bc → Mp pK W bc nc fc → Mp nK W bn n1 f → NdAt W b d 1 ks m → Calls Try.prog 43 #[.pointer (some ⟨p, 0, none⟩), .pointer (some ⟨b, 0, none⟩), .agg (opL o).toArray] W fun e w' => e = .returned (.tuple #[.int .u64 0, .int .i64 code]) ∧ Kept [] W w') :
    Calls Try.prog 22 #[.pointer (some ⟨p, 0, none⟩), .agg (opL o).toArray] w fun e w' => e = .returned (.tuple #[.int .u64 0, .int .i64 code]) ∧ Kept [] w w' := by
  have hbp : b ≠ p := Bx.ne hn hp (by decide)
  refine (do_1 w p (opL o).toArray (fun r er w' => r = 0 ∧ er = code ∧ Kept [] w w') rfl (by simp [opL, hk]) ?_).mono ?_
  · intro W0 k0
    refine (table_some W0 p most next bn bc ps n1 f o 43 b d ks m (fun v w1 => v = .tuple #[.int .u64 0, .int .i64 code] ∧ ∃ W, StAt W p 1 most next bn ps bc ∧ NdAt W b d 1 ks m ∧ Kept [p, b] W0 W ∧ Kept [] W w1) (hp.kept k0 (by simp)) (hmn.kept k0 (by simp)) (hn.kept k0 (by simp)) hf hx enter_make ?_).mono ?_
    · intro W hP hN hK
      unfold DoesAt
      have hpb : bc ∉ [p, b] := fun h => by simp at h; rcases h with h | h; exact hc.ne hp h; exact hc.ne hn h
      have hnb : bn ∉ [p, b] := fun h => by simp at h; rcases h with h | h; exact hmn.ne hp h; exact hmn.ne hn h
      refine (hM W hP ((hc.kept k0 (by simp)).kept hK hpb) ((hmn.kept k0 (by simp)).kept hK hnb) hN).mono ?_
      rintro e w' ⟨rfl, k⟩
      have P' : StAt w' p 1 most next bn ps bc := hP.kept k (by simp)
      have N' : NdAt w' b d 1 ks m := hN.kept k (by simp)
      exact ⟨0, code, rfl, P'.cell 0 rfl, N'.cell 0 rfl, P'.frozen 0, N'.frozen 0, rfl, W, hP, hN, hK, k⟩
    · rintro e w' ⟨v, w1, rfl, ⟨rfl, W, hP, hN, hK, k⟩, rfl⟩
      exact ⟨0, code, rfl, rfl, rfl, k0.trans (unlocked W0 p b hbp k hK most next bn bc ps d ks m (hp.kept k0 (by simp)) (hn.kept k0 (by simp)) hP hN) (fun i hi => by cases hi)⟩
  · rintro e w' ⟨r, er, rfl, rfl, rfl, k⟩
    exact ⟨rfl, k⟩

variable {w p most next bn bc ps nc fc n1 f b d ks m o}
theorem MakeEnd.unlock {W w1 : World} {n : Nat} {xs : List Value} {k : Nat} {ys : List Value} {ps' : Value} {b' m' g cap : Nat} (h : MakeEnd W w1 p 1 most next bn bc ps nc fc n1 f b d 1 ks m o n xs k ys ps' b' m' g cap) (hbp : b ≠ p) (hK : Kept [p, b] w W) (hpl : p < w.heap.size) (hbl : b < w.heap.size) (hrl : ∀ q, ps.ownBlock = some q → q < w.heap.size) (hkl : ∀ q, ks.ownBlock = some q → q < w.heap.size) :
    MakeEnd w ((w1.setCell ⟨b, 0, none⟩ (.int .i32 0)).setCell ⟨p, 0, none⟩ (.int .i32 0)) p 0 most next bn bc ps nc fc n1 f b d 0 ks m o n xs k ys ps' b' m' g cap := by
  have hs := hK.size
  have l1 := h.lb'
  have l2 := h.lm'
  have kk : Kept [p, b] w1 ((w1.setCell ⟨b, 0, none⟩ (.int .i32 0)).setCell ⟨p, 0, none⟩ (.int .i32 0)) := ((Kept.refl [p, b] w1).setCell (p := ⟨b, 0, none⟩) (Or.inl (by simp)) _).setCell (p := ⟨p, 0, none⟩) (Or.inl (by simp)) _
  have ni : ∀ q, q ≠ p → q ≠ b → q ∉ [p, b] := fun q h1 h2 h => by simp at h; rcases h with h | h; exact h1 h; exact h2 h
  refine ⟨Bx.set (Bx.other h.st (a := ⟨b, 0, none⟩) hbp _) 0 _, row_kept h.row kk (fun q hq => ni q (row_ne h.row h.st (by decide) q hq) (row_ne h.row h.dir (by decide) q hq)), h.mn.kept kk (ni bn (h.mn.ne h.st) (h.mn.ne h.dir)), h.mc.kept kk (ni bc (h.mc.ne h.st) (h.mc.ne h.dir)), h.node.kept kk (ni b' (by omega) (by omega)), ?_, Bx.other (Bx.set h.dir 0 _) (a := ⟨p, 0, none⟩) hbp.symm _, row_kept h.krow kk (fun q hq => ni q (row_ne h.krow h.st (by decide) q hq) (row_ne h.krow h.dir (by decide) q hq)), by omega, by omega, h.ne, ?_, ?_, h.rows, ?_⟩
  · exact (kk.block m' (Array.getElem?_eq_some_iff.1 h.data).1 (ni m' (by omega) (by omega))).trans h.data
  · rcases h.lps with e | ⟨q, e, lq⟩
    · exact Or.inl e
    · exact Or.inr ⟨q, e, by omega⟩
  · rcases h.lg with e | e
    · exact Or.inl e
    · exact Or.inr (by omega)
  · exact ((hK.mono (fun i hi => Or.inl (by simp at hi; rcases hi with h | h <;> simp [h]))).trans h.kept (fun i hi => Or.inl hi)).trans kk (fun i hi => Or.inl (by simp at hi; rcases hi with h | h <;> simp [h]))

variable (w p most next bn bc ps nc fc n1 f b d ks m o)
theorem Do_make_ok (n : Nat) (xs : List Value) (k : Nat) (ys : List Value) (hk : o.kind = 1) (hp : StAt w p 0 most next bn ps bc) (hc : Mp pK w bc nc fc) (hmn : Mp nK w bn n1 f) (hn : NdAt w b d 0 ks m) (hf : f o.path = some (ptr b)) (hx : o.path < 18446744073709551616)
    (hs : o.is.name.size ≤ 1000) (u1 : o.is.uid.size ≤ 1000) (u2 : o.is.gid.size ≤ 1000) (u3 : o.is.muid.size ≤ 1000) (hd : isDirM d.mode = true) (hok : newOk o.is = true) (hch : Nm.chk o.is.name = true)
    (hfree : n1 < most) (hr : w.ownsRow 0 30 1 ps n xs) (hkr : w.ownsRow 0 30 1 ks k ys) (hpk : ∀ g, ps.ownBlock = some g → ks.ownBlock ≠ some g) (hbb : bc ≠ bn) (hfn : f next = none) (hnn : n < 1000000000) (hkk : k < 1000000000) (hnx : next < 1000000000000) (htk : (fc (o.path, o.is.name)).isSome = false) :
    Calls Try.prog 22 #[.pointer (some ⟨p, 0, none⟩), .agg (opL o).toArray] w fun e w' => e = .returned (.tuple #[.int .u64 next, .int .i64 0]) ∧ ∃ ps' b' m' g cap, MakeEnd w w' p 0 most next bn bc ps nc fc n1 f b d 0 ks m o n xs k ys ps' b' m' g cap := by
  have hbp : b ≠ p := Bx.ne hn hp (by decide)
  refine (do_1 w p (opL o).toArray (fun r er w' => r = next ∧ er = 0 ∧ ∃ W0, Kept [] w W0 ∧ ∃ ps' b' m' g cap, MakeEnd W0 w' p 0 most next bn bc ps nc fc n1 f b d 0 ks m o n xs k ys ps' b' m' g cap) rfl (by simp [opL, hk]) ?_).mono ?_
  · intro W0 k0
    have hp0 := hp.kept k0 (by simp)
    have hn0 := hn.kept k0 (by simp)
    have hr0 := row_kept hr k0 (fun _ _ h => by simp at h)
    have hkr0 := row_kept hkr k0 (fun _ _ h => by simp at h)
    refine (table_some W0 p most next bn bc ps n1 f o 43 b d ks m (fun v w1 => v = .tuple #[.int .u64 next, .int .i64 0] ∧ ∃ W, Kept [p, b] W0 W ∧ ∃ ps' b' m' g cap, MakeEnd W w1 p 1 most next bn bc ps nc fc n1 f b d 1 ks m o n xs k ys ps' b' m' g cap) hp0 (hmn.kept k0 (by simp)) hn0 hf hx enter_make ?_).mono ?_
    · intro W hP hN hK
      unfold DoesAt
      have hpb : bc ∉ [p, b] := fun h => by simp at h; rcases h with h | h; exact hc.ne hp h; exact hc.ne hn h
      have hnb : bn ∉ [p, b] := fun h => by simp at h; rcases h with h | h; exact hmn.ne hp h; exact hmn.ne hn h
      have ri : ∀ {v : Value} {nn : Nat} {zs : List Value}, W0.ownsRow 0 30 1 v nn zs → ∀ q, v.ownBlock = some q → q ∉ [p, b] := fun hh q hq h => by
        simp at h
        rcases h with h | h
        · exact row_ne hh hp0 (by decide) q hq h
        · exact row_ne hh hn0 (by decide) q hq h
      refine (make_ok W p 1 most next bn bc ps nc fc n1 f b d 1 ks m o hP ((hc.kept k0 (by simp)).kept hK hpb) ((hmn.kept k0 (by simp)).kept hK hnb) hN hx (by unfold maxLen; omega) (by omega) (by omega) (by omega) (by omega) hd hok hch hfree n xs k ys (row_kept hr0 hK (ri hr0)) (row_kept hkr0 hK (ri hkr0)) hpk hbb hfn hnn hkk hnx htk).mono ?_
      rintro e w' ⟨ps', b', m', g, cap, rfl, E⟩
      exact ⟨next, 0, rfl, E.st.cell 0 rfl, E.dir.cell 0 rfl, E.st.frozen 0, E.dir.frozen 0, rfl, W, hK, ps', b', m', g, cap, E⟩
    · rintro e w' ⟨v, w1, rfl, ⟨rfl, W, hK, ps', b', m', g, cap, E⟩, rfl⟩
      exact ⟨next, 0, rfl, rfl, rfl, W0, k0, ps', b', m', g, cap, E.unlock hbp hK hp0.lt hn0.lt (fun q hq => (hr0.lt q hq).2) (fun q hq => (hkr0.lt q hq).2)⟩
  · rintro e w' ⟨r, er, rfl, rfl, rfl, W0, k0, ps', b', m', g, cap, E⟩
    refine ⟨rfl, ps', b', m', g, cap, { E with lb' := Nat.le_trans k0.size E.lb', lm' := Nat.le_trans k0.size E.lm', lps := E.lps.imp id (fun ⟨q, e, l⟩ => ⟨q, e, Nat.le_trans k0.size l⟩), lg := E.lg.imp id (fun l => Nat.le_trans k0.size l), kept := (k0.mono (fun i hi => by cases hi)).trans E.kept (fun i hi => Or.inl hi) }⟩
end
end Nd
end Go.Proofs.Ytihkldcdikbinaa
