/- tags: the law's decides. -/
import Derived.Test.YtjogpafbiackbaaTla
namespace Go.Proofs.Ytjogpafbiackbaa
set_option linter.unusedVariables false
open Go.RowKit Go.Shelf
namespace Tg
open Go.Proofs.Ytjogpafbiackbaa.Mpf Go.PlainAid
section
variable {D : Nat} {w : World} {R p : Nat} {L : LS} {T : TS}
theorem set_put {l : List Th} {k : Nat} {x x' : Th} (hx : l[k]? = some x) : (fun j => (l.set k x')[j]?) = put (fun j => l[j]?) k (some x') := by
  funext j
  have hk := (List.getElem?_eq_some_iff.1 hx).1
  rw [put_eq, List.getElem?_set]
  by_cases e : k = j
  · subst e; simp [hk]
  · rw [if_neg e, if_neg (fun h => e h.symm)]
theorem set_same {l : List Th} {k : Nat} {x : Th} (hx : l[k]? = some x) : l.set k x = l := by
  apply List.ext_getElem?
  intro j
  rw [List.getElem?_set]
  split
  · rename_i e; subst e; split
    · exact hx.symm
    · rename_i h; rw [List.getElem?_eq_none (by omega)]
  · rfl
/-- A Run whose thing k has another field. -/
theorem Run.set {w' : World} {T' : TS} (h : Run D w R p L T) {k : Nat} {x x' : Th} (hx : L.l[k]? = some x) (hlw : LW D w' R p { L with l := L.l.set k x' }) (htb : TB D w' p T') (hinv : Inv none T' L.l.length (put (fun j => L.l[j]?) k (some x')) (fun t => L.hs[t]?) L.said) : Run D w' R p { L with l := L.l.set k x' } T' :=
  ⟨hlw, htb, by rw [← set_put hx] at hinv; rw [List.length_set]; exact hinv, h.hl, by rw [List.length_set]; exact h.few, h.fsd⟩
def LS.setd (L : LS) (k : Nat) (x : Th) (b : Bool) : LS := { L with l := L.l.set k { x with de := b } }
set_option maxHeartbeats 8000000 in
set_option maxRecDepth 100000 in
theorem decides_any (h : Run D w R p L T) {k : Nat} {x : Th} (hx : L.l[k]? = some x) :
    Calls Try.prog 8 #[.pointer (some ⟨R, 0, none⟩), .int .i64 k] w fun e w' => e = .returned (.bool true) ∧ Run D w' R p (L.setd k x (x.de || mvB T (k + 1) 1)) (T.mv (k + 1) 1 3) ∧ Lo D w w' := by
  have I := h.inv
  have hk := (List.getElem?_eq_some_iff.1 hx).1
  have hfew := h.few
  obtain ⟨gl, cl, gh, ch, hl⟩ := h.lw
  have mv := I.mv1 (k := k) (x := x) hx
  have c0 := hl.box.cell 0 (v := .pointer (some ⟨p, 0, none⟩)) rfl
  have dk : (k : Int) < 9223372036854775807 := by omega
  have dl : (k : Int) < (L.l.length : Int) := by omega
  have d0 : (0 : Int) ≤ (k : Int) := by omega
  have ek : ((k + 1 : Nat) : Int) = (k : Int) + 1 := by omega
  obtain ⟨is, his⟩ : ∃ is, is = mvB T (k + 1) 1 := ⟨_, rfl⟩
  have DC : Hid (Calls Try.prog 15 #[.pointer (some ⟨p, 0, none⟩), .int .i64 ((k : Int) + 1)] w fun e w' => e = .returned (.bool is) ∧ TB D w' p (T.mv (k + 1) 1 3) ∧ KT D w w') := by
    have q := Decide_any h.tb (k + 1) (by omega)
    rw [ek, ← his] at q
    exact q
  have INV : Hid (Inv none (T.mv (k + 1) 1 3) L.l.length (put (fun j => L.l[j]?) k (some { x with de := x.de || is })) (fun t => L.hs[t]?) L.said) := by
    cases hm : mvB T (k + 1) 1 with
    | true =>
      have e : is = true := by rw [his, hm]
      rw [e, Bool.or_true]
      exact I.decides hx hm
    | false =>
      have e : is = false := by rw [his, hm]
      have e1 : T.mv (k + 1) 1 3 = T := by
        unfold TS.mv
        unfold mvB at hm
        rw [if_neg (of_decide_eq_false hm)]
      rw [e, Bool.or_false, e1, ← set_put hx, set_same hx]
      exact I
  rw [← his] at mv ⊢
  have HL := Lib.hid hl
  have HR := Lib.hid h
  have HX := Lib.hid hx
  obtain ⟨xt, xf, xn, xc, xd, xa, xw⟩ := x
  have A2 : Hid (∀ w2, TB D w2 p (T.mv (k + 1) 1 3) → KT D w w2 → LWx D (w2.alloc (.cells #[.int .u16 xt, .bool xf, .int .i64 xn, .bool xc, .bool xd, .bool xa, .bool xw] 39)).drew R p gl cl gh ch L ∧ LWx D w2 R p gl cl gh ch L) := fun w2 t k2 => ⟨((HL.out.kt k2).kept ((Kept.refl [] w2).alloc _).drew (by simp) (by simp) (by simp)), HL.out.kt k2⟩
  have FIN : Hid (∀ w2 b, TB D w2 p (T.mv (k + 1) 1 3) → KT D w w2 → b = (xd || is) → Run D ((w2.alloc (.cells #[.int .u16 xt, .bool xf, .int .i64 xn, .bool xc, .bool xd, .bool xa, .bool xw] 39)).drew.setCell ⟨gl, k * 7 + 4, none⟩ (.bool b)) R p (L.setd k ⟨xt, xf, xn, xc, xd, xa, xw⟩ (xd || is)) (T.mv (k + 1) 1 3) ∧ Lo D w ((w2.alloc (.cells #[.int .u16 xt, .bool xf, .int .i64 xn, .bool xc, .bool xd, .bool xa, .bool xw] 39)).drew.setCell ⟨gl, k * 7 + 4, none⟩ (.bool b))) := fun w2 b t k2 hb => by
    subst hb
    have hA := (A2.out w2 t k2).1
    have kA : Kept [] w2 (w2.alloc (.cells #[.int .u16 xt, .bool xf, .int .i64 xn, .bool xc, .bool xd, .bool xa, .bool xw] 39)).drew := ((Kept.refl [] w2).alloc _).drew
    have kB : Kept [gl] (w2.alloc (.cells #[.int .u16 xt, .bool xf, .int .i64 xn, .bool xc, .bool xd, .bool xa, .bool xw] 39)).drew ((w2.alloc (.cells #[.int .u16 xt, .bool xf, .int .i64 xn, .bool xc, .bool xd, .bool xa, .bool xw] 39)).drew.setCell ⟨gl, k * 7 + 4, none⟩ (.bool (xd || is))) := (Kept.refl _ _).setCell (Or.inl (by simp)) _
    refine ⟨HR.out.set HX.out ⟨gl, cl, gh, ch, hA.setf HX.out (by decide) (.bool (xd || is)) rfl⟩ ((t.kept0 kA).own hA kB (by simp)) INV.out, (Lo.of_kt k2).trans ((Lo.of_kept kA (by simp)).trans (Lo.of_kept kB (by simp; exact (own_lt hA.things).1)))⟩
  have HK := Lib.hid hk
  simp only at mv
  clear I hx h hl hfew hk his ek INV HR HL
  cases xf <;> cases xc <;> cases xd <;> simp at mv <;> subst mv
  all_goals
    go_enter Try.func8, Try.ntmps8
    go_wp2_with (go_at_call 15; refine DC.out.mono ?_; rintro e w2 ⟨rfl, t2, k2⟩; obtain ⟨hA, h2⟩ := A2.out w2 t2 k2; obtain ⟨t0, t1, t2', t3, t4, t5, t6⟩ := h2.thing HX.out; have c1 := h2.box.cell 1 (v := .slice (some ⟨gl, 0, none⟩) L.l.length cl) rfl; have c1A := hA.box.cell 1 (v := .slice (some ⟨gl, 0, none⟩) L.l.length cl) rfl; have t4A := (hA.thing HX.out).2.2.2.2.1; have f4A := hA.froz HK.out 4 (by decide); have FN := Lib.hid (fun b hb => FIN.out w2 b t2 k2 hb); clear hA h2 t2 k2 A2 FIN DC)
    go_region
    go_wp2_with fail
    go_ret
    exact ⟨rfl, FN.out _ rfl⟩
end
end Tg
end Go.Proofs.Ytjogpafbiackbaa
