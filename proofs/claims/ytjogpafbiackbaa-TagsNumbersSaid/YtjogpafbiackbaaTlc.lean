/- tags: the law's answers. -/
import Derived.Test.YtjogpafbiackbaaTlb
namespace Go.Proofs.Ytjogpafbiackbaa
set_option linter.unusedVariables false
open Go.RowKit Go.Shelf
namespace Tg
open Go.Proofs.Ytjogpafbiackbaa.Mpf Go.PlainAid
section
variable {D : Nat} {w : World} {R p : Nat} {L : LS} {T : TS}
def LS.seta (L : LS) (k : Nat) (x : Th) (b : Bool) : LS := { L with l := L.l.set k { x with an := b } }
def TS.rep (T : TS) (k : Nat) : TS := if mvB T (k + 1) 3 = true then T.reply (k + 1) 121 ⟨#[]⟩ else T
set_option maxHeartbeats 8000000 in
set_option maxRecDepth 100000 in
theorem answers_any (h : Run D w R p L T) {k : Nat} {x : Th} (hx : L.l[k]? = some x) :
    Calls Try.prog 9 #[.pointer (some ⟨R, 0, none⟩), .int .i64 k] w fun e w' => e = .returned (.bool true) ∧ Run D w' R p (L.seta k x (x.an || mvB T (k + 1) 3)) (T.rep k) ∧ Lo D w w' := by
  have I := h.inv
  have hk := (List.getElem?_eq_some_iff.1 hx).1
  have hfew := h.few
  have hok := I.ok (by omega) (by have := h.fsd; omega)
  obtain ⟨gl, cl, gh, ch, hl⟩ := h.lw
  have mv := I.mv3 (k := k) (x := x) hx
  have c0 := hl.box.cell 0 (v := .pointer (some ⟨p, 0, none⟩)) rfl
  have dk : (k : Int) < 9223372036854775807 := by omega
  have dl : (k : Int) < (L.l.length : Int) := by omega
  have d0 : (0 : Int) ≤ (k : Int) := by omega
  have ek : ((k + 1 : Nat) : Int) = (k : Int) + 1 := by omega
  have HL := Lib.hid hl
  have HR := Lib.hid h
  have HX := Lib.hid hx
  cases hm : mvB T (k + 1) 3
  · have RC : Hid (Calls Try.prog 16 #[.pointer (some ⟨p, 0, none⟩), .int .i64 ((k : Int) + 1), .agg #[.int .u8 121, .int .u16 77, .int .u32 0, .string ⟨#[]⟩, .int .u32 0, .string ⟨#[]⟩, .string ⟨#[]⟩, .string ⟨#[]⟩, .int .u16 0, .int .u32 0, .int .u32 0, .slice none 0 0, .slice none 0 0, .int .u8 0, .int .u32 0, .int .u64 0, .int .u8 0, .int .u32 0, .string ⟨#[]⟩, .int .u32 0, .int .u64 0, .int .u32 0, .slice none 0 0, .int .u16 0, .int .u32 0, .int .u8 0, .int .u32 0, .int .u64 0, .int .u32 0, .int .u32 0, .int .u32 0, .int .u64 0, .string ⟨#[]⟩, .string ⟨#[]⟩, .string ⟨#[]⟩, .string ⟨#[]⟩]] w fun e w' => e = .returned (.int .i64 142) ∧ TB D w' p T ∧ KT D w w') := by
      have q := Reply_no h.tb (k + 1) (by omega) (msgC 121 77 ⟨#[]⟩).toArray (by unfold mvB at hm; exact of_decide_eq_false hm)
      rw [ek] at q
      exact q
    have INV : Hid (Inv none T L.l.length (put (fun j => L.l[j]?) k (some { x with an := x.an || false })) (fun t => L.hs[t]?) L.said) := by
      rw [Bool.or_false, ← set_put hx, set_same hx]; exact I
    obtain ⟨xt, xf, xn, xc, xd, xa, xw⟩ := x
    have A2 : Hid (∀ w2, TB D w2 p T → KT D w w2 → LWx D (w2.alloc (.cells #[.int .u16 xt, .bool xf, .int .i64 xn, .bool xc, .bool xd, .bool xa, .bool xw] 39)).drew R p gl cl gh ch L ∧ LWx D w2 R p gl cl gh ch L) := fun w2 t k2 => ⟨((HL.out.kt k2).kept ((Kept.refl [] w2).alloc _).drew (by simp) (by simp) (by simp)), HL.out.kt k2⟩
    have FIN : Hid (∀ w2 b, TB D w2 p T → KT D w w2 → b = (xa || false) → Run D ((w2.alloc (.cells #[.int .u16 xt, .bool xf, .int .i64 xn, .bool xc, .bool xd, .bool xa, .bool xw] 39)).drew.setCell ⟨gl, k * 7 + 5, none⟩ (.bool b)) R p (L.seta k ⟨xt, xf, xn, xc, xd, xa, xw⟩ (xa || false)) T ∧ Lo D w ((w2.alloc (.cells #[.int .u16 xt, .bool xf, .int .i64 xn, .bool xc, .bool xd, .bool xa, .bool xw] 39)).drew.setCell ⟨gl, k * 7 + 5, none⟩ (.bool b))) := fun w2 b t k2 hb => by
      subst hb
      have hA := (A2.out w2 t k2).1
      have kA : Kept [] w2 (w2.alloc (.cells #[.int .u16 xt, .bool xf, .int .i64 xn, .bool xc, .bool xd, .bool xa, .bool xw] 39)).drew := ((Kept.refl [] w2).alloc _).drew
      have kB : Kept [gl] (w2.alloc (.cells #[.int .u16 xt, .bool xf, .int .i64 xn, .bool xc, .bool xd, .bool xa, .bool xw] 39)).drew ((w2.alloc (.cells #[.int .u16 xt, .bool xf, .int .i64 xn, .bool xc, .bool xd, .bool xa, .bool xw] 39)).drew.setCell ⟨gl, k * 7 + 5, none⟩ (.bool (xa || false))) := (Kept.refl _ _).setCell (Or.inl (by simp)) _
      refine ⟨HR.out.set HX.out ⟨gl, cl, gh, ch, hA.setf HX.out (by decide) (.bool (xa || false)) rfl⟩ ((t.kept0 kA).own hA kB (by simp)) INV.out, (Lo.of_kt k2).trans ((Lo.of_kept kA (by simp)).trans (Lo.of_kept kB (by simp; exact (own_lt hA.things).1)))⟩
    have HK := Lib.hid hk
    simp only at mv
    rw [hm] at mv
    have eT : T.rep k = T := by unfold TS.rep; rw [hm]; rfl
    rw [eT]
    clear I hx h hl hfew hk ek INV HR HL hok hm eT
    cases xd <;> cases xa <;> first | (exfalso; revert mv; decide) | clear mv
    all_goals
      go_enter Try.func9, Try.ntmps9
      go_wp2_with (go_at_call 16; refine RC.out.mono ?_; rintro e w2 ⟨rfl, t2, k2⟩; obtain ⟨hA, h2⟩ := A2.out w2 t2 k2; obtain ⟨t0, t1, t2', t3, t4, t5, t6⟩ := h2.thing HX.out; have c1 := h2.box.cell 1 (v := .slice (some ⟨gl, 0, none⟩) L.l.length cl) rfl; have c1A := hA.box.cell 1 (v := .slice (some ⟨gl, 0, none⟩) L.l.length cl) rfl; have t5A := (hA.thing HX.out).2.2.2.2.2.1; have f5A := hA.froz HK.out 5 (by decide); have FN := Lib.hid (fun b hb => FIN.out w2 b t2 k2 hb); clear hA h2 t2 k2 A2 FIN RC)
      go_region
      go_wp2_with fail
      go_ret
      exact ⟨rfl, FN.out _ rfl⟩
  · have RC : Hid (Calls Try.prog 16 #[.pointer (some ⟨p, 0, none⟩), .int .i64 ((k : Int) + 1), .agg #[.int .u8 121, .int .u16 77, .int .u32 0, .string ⟨#[]⟩, .int .u32 0, .string ⟨#[]⟩, .string ⟨#[]⟩, .string ⟨#[]⟩, .int .u16 0, .int .u32 0, .int .u32 0, .slice none 0 0, .slice none 0 0, .int .u8 0, .int .u32 0, .int .u64 0, .int .u8 0, .int .u32 0, .string ⟨#[]⟩, .int .u32 0, .int .u64 0, .int .u32 0, .slice none 0 0, .int .u16 0, .int .u32 0, .int .u8 0, .int .u32 0, .int .u64 0, .int .u32 0, .int .u32 0, .int .u32 0, .int .u64 0, .string ⟨#[]⟩, .string ⟨#[]⟩, .string ⟨#[]⟩, .string ⟨#[]⟩]] w fun e w' => e = .returned (.int .i64 0) ∧ TB D w' p (T.reply (k + 1) 121 ⟨#[]⟩) ∧ KT D w w') := by
      have q := Reply_yes h.tb hok.dom (by have := hok.rowl; omega) (k + 1) (by omega) 121 77 ⟨#[]⟩ (by unfold mvB at hm; exact of_decide_eq_true hm)
      rw [ek] at q
      exact q
    have INV : Hid (Inv none (T.reply (k + 1) 121 ⟨#[]⟩) L.l.length (put (fun j => L.l[j]?) k (some { x with an := x.an || true })) (fun t => L.hs[t]?) L.said) := by
      rw [Bool.or_true]; exact I.reply hx hm
    obtain ⟨xt, xf, xn, xc, xd, xa, xw⟩ := x
    have A2 : Hid (∀ w2, TB D w2 p (T.reply (k + 1) 121 ⟨#[]⟩) → KT D w w2 → LWx D (w2.alloc (.cells #[.int .u16 xt, .bool xf, .int .i64 xn, .bool xc, .bool xd, .bool xa, .bool xw] 39)).drew R p gl cl gh ch L ∧ LWx D w2 R p gl cl gh ch L) := fun w2 t k2 => ⟨((HL.out.kt k2).kept ((Kept.refl [] w2).alloc _).drew (by simp) (by simp) (by simp)), HL.out.kt k2⟩
    have FIN : Hid (∀ w2 b, TB D w2 p (T.reply (k + 1) 121 ⟨#[]⟩) → KT D w w2 → b = (xa || true) → Run D ((w2.alloc (.cells #[.int .u16 xt, .bool xf, .int .i64 xn, .bool xc, .bool xd, .bool xa, .bool xw] 39)).drew.setCell ⟨gl, k * 7 + 5, none⟩ (.bool b)) R p (L.seta k ⟨xt, xf, xn, xc, xd, xa, xw⟩ (xa || true)) (T.reply (k + 1) 121 ⟨#[]⟩) ∧ Lo D w ((w2.alloc (.cells #[.int .u16 xt, .bool xf, .int .i64 xn, .bool xc, .bool xd, .bool xa, .bool xw] 39)).drew.setCell ⟨gl, k * 7 + 5, none⟩ (.bool b))) := fun w2 b t k2 hb => by
      subst hb
      have hA := (A2.out w2 t k2).1
      have kA : Kept [] w2 (w2.alloc (.cells #[.int .u16 xt, .bool xf, .int .i64 xn, .bool xc, .bool xd, .bool xa, .bool xw] 39)).drew := ((Kept.refl [] w2).alloc _).drew
      have kB : Kept [gl] (w2.alloc (.cells #[.int .u16 xt, .bool xf, .int .i64 xn, .bool xc, .bool xd, .bool xa, .bool xw] 39)).drew ((w2.alloc (.cells #[.int .u16 xt, .bool xf, .int .i64 xn, .bool xc, .bool xd, .bool xa, .bool xw] 39)).drew.setCell ⟨gl, k * 7 + 5, none⟩ (.bool (xa || true))) := (Kept.refl _ _).setCell (Or.inl (by simp)) _
      refine ⟨HR.out.set HX.out ⟨gl, cl, gh, ch, hA.setf HX.out (by decide) (.bool (xa || true)) rfl⟩ ((t.kept0 kA).own hA kB (by simp)) INV.out, (Lo.of_kt k2).trans ((Lo.of_kept kA (by simp)).trans (Lo.of_kept kB (by simp; exact (own_lt hA.things).1)))⟩
    have HK := Lib.hid hk
    simp only at mv
    rw [hm] at mv
    have eT : T.rep k = (T.reply (k + 1) 121 ⟨#[]⟩) := by unfold TS.rep; rw [hm]; rfl
    rw [eT]
    clear I hx h hl hfew hk ek INV HR HL hok hm eT
    cases xd <;> cases xa <;> first | (exfalso; revert mv; decide) | clear mv
    all_goals
      go_enter Try.func9, Try.ntmps9
      go_wp2_with (go_at_call 16; refine RC.out.mono ?_; rintro e w2 ⟨rfl, t2, k2⟩; obtain ⟨hA, h2⟩ := A2.out w2 t2 k2; obtain ⟨t0, t1, t2', t3, t4, t5, t6⟩ := h2.thing HX.out; have c1 := h2.box.cell 1 (v := .slice (some ⟨gl, 0, none⟩) L.l.length cl) rfl; have c1A := hA.box.cell 1 (v := .slice (some ⟨gl, 0, none⟩) L.l.length cl) rfl; have t5A := (hA.thing HX.out).2.2.2.2.2.1; have f5A := hA.froz HK.out 5 (by decide); have FN := Lib.hid (fun b hb => FIN.out w2 b t2 k2 hb); clear hA h2 t2 k2 A2 FIN RC)
      go_region
      go_wp2_with fail
      go_ret
      exact ⟨rfl, FN.out _ rfl⟩
end
end Tg
end Go.Proofs.Ytjogpafbiackbaa
