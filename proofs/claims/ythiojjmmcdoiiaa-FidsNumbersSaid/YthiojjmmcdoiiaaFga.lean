/- fids: Get, Add. -/
import Derived.Test.YthiojjmmcdoiiaaFtb
namespace Go.Proofs.Ythiojjmmcdoiiaa
set_option linter.unusedVariables false
open Go.RowKit
namespace Fi
open Go.Proofs.Ythiojjmmcdoiiaa.Mpf Go.PlainAid

theorem own_new {w w' : World} {B : Nat} {s : Value} {bs : List UInt8} {S : List Nat} (h : Own w B s bs) (k : Kept S w w') (hS : No8 S w) : Own w' B s bs := ownsRow_kept h k (fun g hg hm => by
  rcases h.2 with ⟨rfl, h0⟩ | ⟨g', cap, cur, rfl, _, hgg, _⟩
  · simp [Value.ownBlock] at hg
  · simp [Value.ownBlock] at hg
    subst hg
    exact hS _ hm ⟨_, _, hgg⟩)
set_option maxRecDepth 100000 in
theorem Get_none {w : World} {p m most n : Nat} {F : Nat → Option Fd} (h : Tb w p m most n F) (x : Nat) (hx : x < 4294967296) (hF : F x = none) :
    Calls Try.prog 30 #[.pointer (some ⟨p, 0, none⟩), .int .u32 x] w fun e w' => e = .returned (.tuple #[zeroFd.V (.slice none 0 0), .int .i64 100]) ∧ Kept [] w w' := by
  have HAS := Lib.hid (fun w' k => has_any (w := w') (h.kept0 k) x hx)
  simp only [hF, Option.isSome_none] at HAS
  have B0 : Hid (Bx (w.alloc (.cells (zeroFd.L (.slice none 0 0)).toArray 51)) w.heap.size 51 (zeroFd.L (.slice none 0 0)).toArray) := Bx.made _ _ _
  have KA : Hid (Kept [] w (w.alloc (.cells (zeroFd.L (.slice none 0 0)).toArray 51))) := (Kept.refl _ _).alloc _
  simp only [Fd.L, zeroFd] at KA
  clear h hx hF
  go_enter Try.func30, Try.ntmps30
  go_wp2_with (first | (go_at_call 54; refine (HAS.out _ KA.out).mono ?_; rintro e w2 ⟨rfl, k2⟩; have b2 := Bx.kept B0.out k2 (by simp)) | (refine wpList_srow rfl (.tmp 4) (.tmp 10) rfl w.heap.size rfl _ (zeroFd.L (.slice none 0 0)).toArray rfl b2 rfl rfl (A_one _ _ _ _) ?_; intro w4 b4 k4))
  have hl := run_loadVar_row (P := Try.prog) w4 w.heap.size 51 51 _ (0, 0) _ b4 Try.underlying51 rfl size_fid
  refine bodyPost_ret (v := .tuple #[zeroFd.V (.slice none 0 0), .int .i64 100]) (by simp [results, Try.results30, asAddr, hl]; rfl) rfl ⟨rfl, ?_⟩
  exact (KA.out.trans k2 (fun i hi => by cases hi)).trans k4 (fun i hi => Or.inr (by simp at hi; omega))
/-- A fid came out, a copy. -/
def GotFd (w : World) (d : Fd) (e : Ending) (w' : World) : Prop := ∃ a c, e = .returned (.tuple #[d.V (.slice a d.heard.length c), .int .i64 0]) ∧ Hid (Own w' w.heap.size (.slice a d.heard.length c) d.heard) ∧ Kept [] w w'
set_option maxRecDepth 100000 in
theorem Get_some {w : World} {p m most n : Nat} {F : Nat → Option Fd} (h : Tb w p m most n F) (x : Nat) (hx : x < 4294967296) (d : Fd) (hF : F x = some d) :
    Calls Try.prog 30 #[.pointer (some ⟨p, 0, none⟩), .int .u32 x] w (GotFd w d) := by
  have HAS := Lib.hid (fun w' k => has_any (w := w') (h.kept0 k) x hx)
  simp only [hF, Option.isSome_some] at HAS
  have LOOK : Hid (∀ w', Kept [] w w' → ∃ a c, (Instr.lookup 85 (.map (some m)) (.int .u32 x) false).run Try.prog w' = .ok (.agg (d.L (.slice a d.heard.length c)).toArray) w' ∧ Rd8 w' (.slice a d.heard.length c) d.heard) := fun w' k => by
    obtain ⟨g, hg, he⟩ := (h.kept0 k).map
    have hl := hg.look Try.underlying85 (zero_fid w') (x := x) hx false
    rcases he x with ⟨h1, h2⟩ | ⟨d', a, c, h1, h2, h3, h4⟩
    · rw [hF] at h2; cases h2
    · rw [hF] at h2
      cases h2
      rw [h1] at hl
      exact ⟨a, c, hl, h3⟩
  have LEN : Hid (d.heard.length ≤ 1152921504606) := by
    obtain ⟨g, hg, he⟩ := h.map
    rcases he x with ⟨h1, h2⟩ | ⟨d', a, c, h1, h2, h3, h4⟩
    · rw [hF] at h2; cases h2
    · rw [hF] at h2
      cases h2
      unfold maxB at h4
      show _ ≤ _
      omega
  have BT := Lib.hid (fun w' (k : Kept [] w w') => (h.kept0 k).box.cell 1 (v := .map (some m)) rfl)
  have B0 : Hid (Bx (w.alloc (.cells (zeroFd.L (.slice none 0 0)).toArray 51)) w.heap.size 51 (zeroFd.L (.slice none 0 0)).toArray) := Bx.made _ _ _
  have KA : Hid (Kept [] w (w.alloc (.cells (zeroFd.L (.slice none 0 0)).toArray 51))) := (Kept.refl _ _).alloc _
  simp only [Fd.L, zeroFd] at KA
  clear h hx hF
  go_enter Try.func30, Try.ntmps30
  go_wp2_with (first | (go_at_call 54; refine (HAS.out _ KA.out).mono ?_; rintro e w2 ⟨rfl, k2⟩; have K2 : Hid (Kept [] w w2) := KA.out.trans k2 (fun i hi => by cases hi); have b2 := Lib.hid (Bx.kept B0.out k2 (by simp)); have c2 := BT.out w2 K2.out; obtain ⟨a, c, hl, hr⟩ := LOOK.out w2 K2.out; obtain ⟨T, hr, hT⟩ := hr; have CO : Hid (Calls Try.prog 53 #[.agg (d.L (.slice a d.heard.length c)).toArray] w2 (Copied w2 d)) := copied_any w2 d _ T hr LEN.out; clear hr hT k2) | (go_at_call 53; refine CO.out.mono ?_; rintro e w3 ⟨s', rfl, own, k3⟩; obtain ⟨a', c', hs'⟩ := own_slice own.out; subst hs'; have b3 := Lib.hid (b2.out.kept k3 (by simp))) | (refine wpList_srow rfl (.tmp 4) (.tmp 17) rfl w.heap.size rfl _ (d.L (.slice a' d.heard.length c')).toArray rfl b3.out rfl rfl (A_one _ _ _ _) ?_; intro w4 b4 k4))
  have hl := run_loadVar_row (P := Try.prog) w4 w.heap.size 51 51 _ (0, 0) _ b4 Try.underlying51 rfl size_fid
  refine bodyPost_ret (v := .tuple #[d.V (.slice a' d.heard.length c'), .int .i64 0]) (by simp [results, Try.results30, asAddr, hl]; rfl) rfl ⟨_, _, rfl, ?_, ?_⟩
  · refine own_base (own_new own.out k4 (fun i hi => ?_)) K2.out.size
    simp at hi
    subst hi
    exact b3.out.no8 (by decide)
  · exact (K2.out.trans k3 (fun i hi => by cases hi)).trans k4 (fun i hi => Or.inr (by simp at hi; omega))
end Fi
end Go.Proofs.Ythiojjmmcdoiiaa
