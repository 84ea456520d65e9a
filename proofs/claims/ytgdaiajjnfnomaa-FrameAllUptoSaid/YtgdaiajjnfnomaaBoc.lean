/- A book's turn: the growing chains, between two steps of the inner loop. No program's run. -/
import Derived.Test.YtgdaiajjnfnomaaBok
namespace Go.Proofs.Ytgdaiajjnfnomaa
set_option linter.unusedVariables false
open Go.RowKit

theorem own_notrow {w : World} {x lv : Value} {bs : List UInt8} {n : Nat} {L : List Value} (h1 : Own w 0 x bs) (h2 : w.ownsRow 0 22 1 lv n L) : ∀ b, x.ownBlock = some b → b ∉ lv.ownBlock.toList := fun b hb hm => by
  rcases h2.2 with ⟨rfl, _⟩ | ⟨gg, cap, cur, rfl, _, hgg, _⟩
  · simp [Value.ownBlock] at hm
  · simp [Value.ownBlock] at hm
    subst hm
    exact own_neB h1 hgg (by decide) b hb rfl

/-- c: how many were pushed in this list's and the earlier rounds; n: how long the chain v is now. -/
structure CJ (w : World) (k : Nat) (lv mv hv tv fv wv : Value) (vs hs ex : List Value) (F FX : List (List UInt8)) (M MX : List UInt8) (hb : List (List UInt8)) (xs ys : List Value) (xb : List (List UInt8)) (col : Nat → Nat) (w0 : World) (col0 : Nat → Nat) (i c n : Nat) (μ : UInt8) (v : Value) : Prop where
  x : BX w k lv mv hv tv fv wv (vs ++ hs ++ ex) (F ++ FX) (M ++ MX) hs hb xs ys xb col hs.length hs.length
  u : Uni (F ++ FX) (M ++ MX)
  lm : M.length = F.length
  lx : MX.length = FX.length
  le : FX.length = c
  xbl : ∀ x ∈ FX, x.length ≤ 1200000000
  far : Far w0 col0 w col
  exl : ∀ e ∈ ex, ∀ b, e.ownBlock = some b → col b = 0 ∨ InH hs (i + 1) b
  und : ∀ e ∈ vs ++ hs ++ ex, ∀ g, e.ownBlock = some g → v.ownBlock = some g → lenV e ≤ n
  vb : ∀ b, v.ownBlock = some b → col b = 0 ∨ InH hs (i + 1) b
  ov : Own w 0 v (List.replicate n μ)
section
variable {w W w1 w2 w3 : World} {k i c n : Nat} {lv mv hv tv fv wv v : Value} {vs hs ex : List Value} {F FX : List (List UInt8)} {M MX : List UInt8} {hb : List (List UInt8)} {xs ys : List Value} {xb : List (List UInt8)} {col : Nat → Nat} {w0 : World} {col0 : Nat → Nat} {μ : UInt8}
theorem CJ.exlt (h : CJ w k lv mv hv tv fv wv vs hs ex F FX M MX hb xs ys xb col w0 col0 i c n μ v) : ∀ e ∈ ex, ∀ b, e.ownBlock = some b → b < w.heap.size := fun e he b hb => by
  obtain ⟨q, hq, rfl⟩ := List.mem_iff_getElem.1 (List.mem_append_right (vs ++ hs) he)
  exact ((h.x.l.el q hq (by rw [← h.x.l.len]; exact hq) (Nat.zero_le _)).1.lt b hb).2
theorem CJ.vcol (h : CJ w k lv mv hv tv fv wv vs hs ex F FX M MX hb xs ys xb col w0 col0 i c n μ v) (hi : i < hs.length) : ∀ b, v.ownBlock = some b → col b = 0 ∨ col b = 2 := fun b hb => by
  rcases h.vb b hb with e | e
  · exact Or.inl e
  · exact Or.inr (h.x.hc b (e.more (by omega))).1
theorem CJ.cast {c' n' : Nat} (h : CJ w k lv mv hv tv fv wv vs hs ex F FX M MX hb xs ys xb col w0 col0 i c n μ v) (hc : c = c') (hn : n = n') : CJ w k lv mv hv tv fv wv vs hs ex F FX M MX hb xs ys xb col w0 col0 i c' n' μ v := by subst hc; subst hn; exact h
/-- The chain grows by one mark. -/
theorem CJ.grow {v' : Value} (h : CJ w k lv mv hv tv fv wv vs hs ex F FX M MX hb xs ys xb col w0 col0 i c n μ v) (hi : i < hs.length) (hW : Kept [] w W)
    (hown : w1.ownsRow 0 5 1 v' (n + 1) ((List.replicate n μ).map bv ++ [bv μ])) (hgrow : W.grownBy w1 v.ownBlock)
    (hcap : (∃ g c, v = .slice (some ⟨g, 0, none⟩) n c ∧ v' = .slice (some ⟨g, 0, none⟩) (n + 1) c) ∨ (W.grownBy w1 none ∧ (v' = v ∨ v'.ownBlock = some W.heap.size))) :
    CJ w1 k lv mv hv tv fv wv vs hs ex F FX M MX hb xs ys xb (upd col W.heap.size 0) w0 col0 i c (n + 1) μ v' := by
  obtain ⟨CX, CO, CV, CU, CK, CC⟩ := h.x.chain h.ov (fun b hb => (h.vb b hb).imp id (fun z => z.more (by omega))) h.und hW hown hgrow hcap
  refine ⟨CX, h.u, h.lm, h.lx, h.le, h.xbl, h.far.step CK (fun b hb _ => ?_) CC, fun e he b hb => ?_, CU, fun b hb => ?_, CO⟩
  · have := h.vcol hi b (by simpa using hb)
    omega
  · rw [CC b (h.exlt e he b hb)]
    exact h.exl e he b hb
  · rcases CV b hb with e | e
    · exact Or.inl e
    · rw [CC b (h.ov.lt b e).2]
      exact h.vb b e
/-- The chain is pushed, with its mark. -/
theorem CJ.push {lv' mv' : Value} {col1 col2 : Nat → Nat} (h : CJ w k lv mv hv tv fv wv vs hs ex F FX M MX hb xs ys xb col w0 col0 i c n μ v) (hi : i < hs.length) (hn : n ≤ 1200000000)
    (k1 : Kept (k :: lv.ownBlock.toList) w w1) (u1 : ∀ b, b < w.heap.size → col1 b = col b)
    (k2 : Kept (k :: mv.ownBlock.toList) w1 w2) (u2 : ∀ b, b < w1.heap.size → col2 b = col1 b)
    (x2 : BX w2 k lv' mv' hv tv fv wv (vs ++ hs ++ ex ++ [v]) (F ++ FX ++ [List.replicate n μ]) (M ++ MX ++ [μ]) hs hb xs ys xb col2 hs.length hs.length) :
    CJ w2 k lv' mv' hv tv fv wv vs hs (ex ++ [v]) F (FX ++ [List.replicate n μ]) M (MX ++ [μ]) hb xs ys xb col2 w0 col0 i (c + 1) n μ v := by
  have hs1 := k1.size
  have hlm := h.lm
  have hlx := h.lx
  have hle := h.le
  have hu : ∀ b, b < w.heap.size → col2 b = col b := fun b hb => by rw [u2 b (by omega), u1 b hb]
  have hck := h.x.ck
  have hkl := block_lt h.x.box
  refine ⟨by rw [← List.append_assoc, ← List.append_assoc, ← List.append_assoc]; exact x2, by rw [← List.append_assoc, ← List.append_assoc]; exact h.u.push (by simp; omega) _ _, h.lm, by simp; omega, by simp; omega, fun x hx => ?_, (h.far.step k1 (fun b hb _ => ?_) u1).step k2 (fun b hb hlt => ?_) u2, fun e he b hb => ?_, fun e he g h1 h2 => ?_, fun b hb => ?_, ?_⟩
  · rcases List.mem_append.1 hx with q | q
    · exact h.xbl x q
    · simp at q; rw [q]; simp; omega
  · rcases List.mem_cons.1 hb with rfl | hb
    · omega
    · have := h.x.lc b (by simpa using hb); omega
  · rcases List.mem_cons.1 hb with rfl | hb
    · rw [u1 b hkl]; omega
    · have hb2 : mv.ownBlock = some b := by simpa using hb
      rw [u1 b (h.x.m.lt b hb2).2]
      have := h.x.mc b hb2; omega
  · rcases List.mem_append.1 he with q | q
    · rw [hu b (h.exlt e q b hb)]
      exact h.exl e q b hb
    · simp at q
      subst q
      rw [hu b (h.ov.lt b hb).2]
      exact h.vb b hb
  · rw [← List.append_assoc] at he
    rcases List.mem_append.1 he with q | q
    · exact h.und e q g h1 h2
    · simp at q
      subst q
      obtain ⟨a, z, e⟩ := own_slice h.ov
      rw [e]
      simp [lenV]
  · rw [hu b (h.ov.lt b hb).2]
    exact h.vb b hb
  · have o1 : Own w1 0 v (List.replicate n μ) := ownsRow_kept h.ov k1 (fun b hb hm => by
      rcases List.mem_cons.1 hm with e | e
      · have := h.vcol hi b hb
        rw [e] at this
        omega
      · exact own_notrow h.ov h.x.l.own b hb e)
    exact ownsRow_kept o1 k2 (fun b hb hm => by
      rcases List.mem_cons.1 hm with e | e
      · have := h.vcol hi b hb
        rw [e] at this
        omega
      · have := h.x.mc b (by simpa using e)
        have := h.vcol hi b hb
        omega)
end
/-- The colours behind a turn: what was held lies among the marked now, what was fresh is held. -/
def recol (c : Nat) : Nat := if c = 2 then 0 else if c = 4 then 2 else if c = 5 then 3 else c
theorem recol_far {c : Nat} (h : 7 ≤ c) : recol c = c := by unfold recol; rw [if_neg (by omega), if_neg (by omega), if_neg (by omega)]
theorem recol_near {c : Nat} (h : recol c ≤ 6) : c ≤ 6 := by
  by_cases h2 : c ≤ 6
  · exact h2
  · rw [recol_far (by omega)] at h
    omega
theorem recol_2 {c : Nat} (h : c = 2) : recol c = 0 := by subst h; rfl
theorem recol_0 {c : Nat} (h : c = 0) : recol c = 0 := by subst h; rfl
theorem recol_1 {c : Nat} (h : c = 1) : recol c = 1 := by subst h; rfl
theorem recol_4 {c : Nat} (h : c = 4) : recol c = 2 := by subst h; rfl
theorem recol_5 {c : Nat} (h : c = 5) : recol c = 3 := by subst h; rfl
theorem recol_6 {c : Nat} (h : c = 6) : recol c = 6 := by subst h; rfl
/-- The turn's end: the four stores. -/
theorem BX.fin {w : World} {k j : Nat} {lv mv hv tv fv wv : Value} {L hs xs ys : List Value} {F hb xb : List (List UInt8)} {M : List UInt8} {col : Nat → Nat} (h : BX w k lv mv hv tv fv wv L F M hs hb xs ys xb col hs.length j) (hlm : M.length = F.length) (hu : Uni F M) :
    BS ((((w.setCell ⟨k, 2, none⟩ fv).setCell ⟨k, 3, none⟩ wv).setCell ⟨k, 4, none⟩ (.slice none 0 0)).setCell ⟨k, 5, none⟩ (.slice none 0 0)) k lv mv fv wv (.slice none 0 0) (.slice none 0 0) L F M xs xb ys [] [] [] (fun b => recol (col b)) ∧
      Kept [k] w ((((w.setCell ⟨k, 2, none⟩ fv).setCell ⟨k, 3, none⟩ wv).setCell ⟨k, 4, none⟩ (.slice none 0 0)).setCell ⟨k, 5, none⟩ (.slice none 0 0)) := by
  have b1 := heap_set (i := 2) fv h.box
  have b2 := heap_set (i := 3) wv b1
  have b3 := heap_set (i := 4) (.slice none 0 0) b2
  have b4 := heap_set (i := 5) (.slice none 0 0) b3
  have K : Kept [k] w ((((w.setCell ⟨k, 2, none⟩ fv).setCell ⟨k, 3, none⟩ wv).setCell ⟨k, 4, none⟩ (.slice none 0 0)).setCell ⟨k, 5, none⟩ (.slice none 0 0)) := ((((Kept.refl [k] w).setCell (p := ⟨k, 2, none⟩) (Or.inl (by simp)) fv).setCell (p := ⟨k, 3, none⟩) (Or.inl (by simp)) wv).setCell (p := ⟨k, 4, none⟩) (Or.inl (by simp)) (.slice none 0 0)).setCell (p := ⟨k, 5, none⟩) (Or.inl (by simp)) (.slice none 0 0)
  have hck := h.ck
  have ck : ∀ c, c ≠ 6 → ∀ b ∈ [k], col b = c → w.heap.size ≤ b := fun c hc b hb e => by simp at hb; subst hb; omega
  refine ⟨⟨by simpa using b4, ?_, ownsRow_kept h.m K (fun b e hm => by simp at hm; subst hm; have := h.mc b e; omega), fun b hb => recol_1 (h.mc b hb), hlm, hu, (h.f.kept K (ck 4 (by decide))).recol (fun b _ e => recol_4 e), (h.s.kept K (ck 5 (by decide))).recol (fun b _ e => recol_5 e), FrP.nil _ _, FrP.nil _ _, recol_6 h.ck, h.fd, fun i j hi => by simp at hi⟩, K⟩
  have l2 := h.l.kept K (fun b hb e => by
    simp at hb
    subst hb
    rcases e with e | e
    · omega
    · have := (h.hc b e).1
      omega)
  exact l2.recol (fun b _ e => by
    rcases e with e | e
    · exact recol_0 e
    · exact recol_2 (h.hc b e).1)
end Go.Proofs.Ytgdaiajjnfnomaa
