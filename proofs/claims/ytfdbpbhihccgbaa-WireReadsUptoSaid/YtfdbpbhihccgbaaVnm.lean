/- The reference's writer: its numbers. -/
import Derived.Test.YtfdbpbhihccgbaaVrt
namespace Go.Proofs.Ytfdbpbhihccgbaa
set_option linter.unusedVariables false
open Go.RowKit
namespace Vrt
open Go.Proofs.Ytfdbpbhihccgbaa.Txt

theorem div_step (N k : Nat) : N / 256 ^ k / 256 = N / 256 ^ (k + 1) := by rw [Nat.div_div_eq_div_mul, Nat.pow_succ]

/-- A list of the call's own, over steps that turn nothing old. -/
theorem own_b {w w' : World} {B : Nat} {v : Value} {bs : List UInt8} (h : w.ownsRow B 5 1 v bs.length (bs.map bv)) (hk : Kept [] w w') : w'.ownsRow B 5 1 v bs.length (bs.map bv) := by
  refine ⟨h.1, ?_⟩
  rcases h.2 with hn | ⟨g, cap, cur, rfl, hb, hgg, rest⟩
  · exact .inl hn
  · exact .inr ⟨g, cap, cur, rfl, hb, by rw [hk.block g (block_lt hgg) (by simp)]; exact hgg, rest⟩

set_option maxHeartbeats 1000000 in
set_option maxRecDepth 100000 in
theorem number_any (w : World) (p : Nat) (S : List Nat) (st : WS) (x y : Int) (N M : Nat) (hx : x = N) (hy : y = M) (hN : N ≤ 18446744073709551615) (hM : M ≤ 8) (ok : Hid st.Ok) (h : Hid (Wr 79 w p S st)) :
    Calls Try.prog 93 #[.pointer (some ⟨p, 0, none⟩), .int .u64 x, .int .i64 y] w fun e w' => e = .returned (.tuple #[]) ∧ Out 79 w p S (st.raw (le M N)) w' := by
  subst hx hy
  obtain ⟨i0, hi, hz0, hz1, hz2⟩ := info_parts Wrt.info5
  go_enter Try.func93, Try.ntmps93
  go_wp2_with fail
  go_loopw [1, 6, 7] (fun nv b0 kv wr => ∃ (k m : Nat) (b : Value), k ≤ M ∧ kv = .int .i64 k ∧ nv = .int .u64 m ∧ m ≤ 18446744073709551615 ∧ b = b0 ∧ Hid (m = N / 256 ^ k) ∧ Hid (wr.ownsRow w.heap.size 5 1 b (le k N).length ((le k N).map bv)) ∧ Hid (Kept [] w wr)) (fun _ _ kv _ => M - (intOf kv).toNat)
  case atStart => exact ⟨0, N, _, by omega, rfl, rfl, hN, rfl, by simp [Hid], World.ownsRow_nil _ _ _ _, Kept.refl _ _⟩
  case round =>
    obtain ⟨k, m, b, hk, rfl, rfl, hm, rfl, hmN, hown, hK⟩ := hrel
    by_cases hlt : k < M
    · obtain ⟨c, hc⟩ : ∃ c : UInt8, c = UInt8.ofNat m := ⟨_, rfl⟩
      have q3 : (m : Int) % 256 = (c.toNat : Int) := by rw [hc]; simp
      obtain ⟨l, hl⟩ : ∃ l, l = le k N := ⟨_, rfl⟩
      have hll : l.length = k := by rw [hl, le_length]
      rw [← hl] at hown
      have HL := Lib.hid hl
      have HLL := Lib.hid hll
      have hlk : l.length ≤ 8 := by omega
      have HC := Lib.hid hc
      clear hc hl hll
      go_wp2_with (at_builtin; refine wpList_append_own _ rfl (.tmp 13) (.tmp 17) 37 rfl w.heap.size 5 i0 (.int .u8 0) 1 1 Try.underlying37 hi hz0 hz1 hz2 rfl (by decide) b l.length _ rfl (hown.out.alloc _) ⟨wr.heap.size, 0, none⟩ 1 1 [bv c] rfl rfl (World.news_of_block (cs := #[bv c]) (by exact heap_alloc_new wr _)) (by intro u hu; simp at hu; subst hu; rfl) (by unfold maxLen; omega) (by omega) (by have := hK.out.size; simp; omega) ?_; intro v2 w2 hown2 hgrow2 _; have R1 : Hid (w2.ownsRow w.heap.size 5 1 v2 (le (k + 1) N).length ((le (k + 1) N).map bv)) := (by rw [le_succ, ← hmN.out, ← HL.out, ← HC.out]; simpa [Hid] using hown2); have R2 : Hid (Kept [] w w2) := (hK.out.trans ((Kept.refl [] wr).alloc _) (fun i hi => by simp at hi)).grown hgrow2 (fun i hi => Or.inr (hown.out.lt i hi).1); clear hown2 hgrow2)
      go_roundw
      case rel => exact ⟨k + 1, m / 256, v2, by omega, by go_num, by go_num, by omega, rfl, by rw [hmN.out]; exact div_step N k, R1, R2⟩
      case measure => simp [intOf]; omega
    · have hkM : le k N = le M N := by rw [show k = M from by omega]
      rw [hkM] at hown
      have hsz : (le M N).length ≤ 8 := by rw [le_length]; exact hM
      have hs : Hid (Src wr b (le M N) b.ownBlock.toList) := Src.of_own hown.out
      have hd : Hid (∀ i ∈ b.ownBlock.toList, i ∉ S) := fun i hi hm2 => by
        have h1 := (hown.out.lt i (by simpa using hi)).1
        have h2 := h.out.lt i hm2
        omega
      have hw : Hid (Wr 79 wr p S st) := h.out.kept hK.out (fun i _ hm => by simp at hm)
      clear hkM
      go_wp2_with fail
      refine (raw_any _ p S _ st _ (le M N) (by omega) hs hd ok hw).mono ?_
      rintro e w2 ⟨rfl, ho⟩
      have HO := Lib.hid ho
      clear ho
      go_wp2_with fail
      go_end0
      refine ⟨rfl, Out.trans (S1 := S) (hK.out.mono (fun i hi => by simp at hi)) (fun i hi => Or.inl hi) HO.out⟩

theorem u8_any (w : World) (p : Nat) (S : List Nat) (st : WS) (x : Int) (n : Nat) (hx : x = n) (hn : n ≤ 255) (ok : Hid st.Ok) (h : Hid (Wr 79 w p S st)) :
    Calls Try.prog 71 #[.pointer (some ⟨p, 0, none⟩), .int .u8 x] w fun e w' => e = .returned (.tuple #[]) ∧ Out 79 w p S (st.raw (le 1 n)) w' := by
  subst hx
  have q : IntKind.u64.wrap (n : Int) = n := IntWalk.u64_in _ ⟨by omega, by omega⟩
  go_enter Try.func71, Try.ntmps71
  go_wp2_with fail
  refine (number_any _ p S st _ _ n 1 rfl rfl (by omega) (by decide) ok h).mono ?_
  rintro e w1 ⟨rfl, hw⟩
  go_wp2_with fail
  go_end0
  exact ⟨rfl, hw⟩

theorem u16_any (w : World) (p : Nat) (S : List Nat) (st : WS) (x : Int) (n : Nat) (hx : x = n) (hn : n ≤ 65535) (ok : Hid st.Ok) (h : Hid (Wr 79 w p S st)) :
    Calls Try.prog 72 #[.pointer (some ⟨p, 0, none⟩), .int .u16 x] w fun e w' => e = .returned (.tuple #[]) ∧ Out 79 w p S (st.raw (le 2 n)) w' := by
  subst hx
  have q : IntKind.u64.wrap (n : Int) = n := IntWalk.u64_in _ ⟨by omega, by omega⟩
  go_enter Try.func72, Try.ntmps72
  go_wp2_with fail
  refine (number_any _ p S st _ _ n 2 rfl rfl (by omega) (by decide) ok h).mono ?_
  rintro e w1 ⟨rfl, hw⟩
  go_wp2_with fail
  go_end0
  exact ⟨rfl, hw⟩

theorem u32_any (w : World) (p : Nat) (S : List Nat) (st : WS) (x : Int) (n : Nat) (hx : x = n) (hn : n ≤ 4294967295) (ok : Hid st.Ok) (h : Hid (Wr 79 w p S st)) :
    Calls Try.prog 74 #[.pointer (some ⟨p, 0, none⟩), .int .u32 x] w fun e w' => e = .returned (.tuple #[]) ∧ Out 79 w p S (st.raw (le 4 n)) w' := by
  subst hx
  have q : IntKind.u64.wrap (n : Int) = n := IntWalk.u64_in _ ⟨by omega, by omega⟩
  go_enter Try.func74, Try.ntmps74
  go_wp2_with fail
  refine (number_any _ p S st _ _ n 4 rfl rfl (by omega) (by decide) ok h).mono ?_
  rintro e w1 ⟨rfl, hw⟩
  go_wp2_with fail
  go_end0
  exact ⟨rfl, hw⟩

theorem u64_any (w : World) (p : Nat) (S : List Nat) (st : WS) (x : Int) (n : Nat) (hx : x = n) (hn : n ≤ 18446744073709551615) (ok : Hid st.Ok) (h : Hid (Wr 79 w p S st)) :
    Calls Try.prog 76 #[.pointer (some ⟨p, 0, none⟩), .int .u64 x] w fun e w' => e = .returned (.tuple #[]) ∧ Out 79 w p S (st.raw (le 8 n)) w' := by
  subst hx
  have q : IntKind.u64.wrap (n : Int) = n := IntWalk.u64_in _ ⟨by omega, by omega⟩
  go_enter Try.func76, Try.ntmps76
  go_wp2_with fail
  refine (number_any _ p S st _ _ n 8 rfl rfl (by omega) (by decide) ok h).mono ?_
  rintro e w1 ⟨rfl, hw⟩
  go_wp2_with fail
  go_end0
  exact ⟨rfl, hw⟩
end Vrt
end Go.Proofs.Ytfdbpbhihccgbaa
