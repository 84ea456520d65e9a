/- WireWrites, walked. -/
import Derived.Test.YtfdbpbhihccgbaaWmn
import Derived.Test.YtfdbpbhihccgbaaMch
import Derived.Test.YtfdbpbhihccgbaaKno
import Derived.Test.YtfdbpbhihccgbaaInl
import Derived.Deep.Cut
import Derived.Deep.CutBlock
import Derived.Deep.CutRange
import Derived.Deep.QuietTactic
import Derived.BigQuiet
import Derived.Deep.RegionWith
namespace Go.Proofs.Ytfdbpbhihccgbaa
set_option linter.unusedVariables false
open Go.RowKit

/-- Numbers that come in. -/
structure Lms (w : World) (a : Option Addr) (cap b off : Nat) (ls : List Int) (T : List Nat) : Prop where
  n : ls.length ≤ 1048576
  a : 0 < ls.length → a = some ⟨b, off, none⟩ ∧ ls.length ≤ cap
  t : ∀ i ∈ T, i < w.heap.size
  at' : ∀ i (hi : i < ls.length), b ∈ T ∧ w.cell? ⟨b, off + i, none⟩ = some (.int .i64 ls[i]) ∧ -9223372036854775808 ≤ ls[i] ∧ ls[i] ≤ 9223372036854775807
theorem Lms.kept {w w' : World} {a : Option Addr} {cap b off : Nat} {ls : List Int} {T S : List Nat} (h : Lms w a cap b off ls T) (hk : Kept S w w') (hd : ∀ i ∈ T, i ∉ S) : Lms w' a cap b off ls T := by
  refine ⟨h.n, h.a, fun i hi => Nat.lt_of_lt_of_le (h.t i hi) hk.size, fun i hi => ?_⟩
  obtain ⟨h1, h2, h3⟩ := h.at' i hi
  refine ⟨h1, ?_, h3⟩
  rw [← h2]
  exact World.cell?_of_block (hk.block b (h.t b h1) (hd b h1))

namespace Wws
set_option maxHeartbeats 4000000 in
set_option maxRecDepth 100000 in
theorem walk (w : World) (a1 a2 : Option Addr) (c1 c2 b1 o1 b2 o2 : Nat) (ls : List Int) (ops : List Stp) (bs : Nat → List UInt8) (T2 T1 : List Nat)
    (h1 : Hid (Lms w a1 c1 b1 o1 ls T1)) (h2 : Hid (Sta.In w a2 c2 b2 o2 ops bs T2)) :
    Calls Try.prog 3 #[.slice a1 ls.length c1, .slice a2 ops.length c2] w fun e w' => e = .returned (.bool true) ∧ Kept [] w w' := by
  have MUCH := Lib.hid (Lst.much_any w a2 c2 b2 o2 ops bs T2 h2.out.n h2.out.a h2.out.ops)
  have hln := h1.out.n
  have hon := h2.out.n
  go_enter Try.func3, Try.ntmps3
  by_cases hlen : 10000 < ls.length
  · have j0 : (10000 : Int) < (ls.length : Int) := by omega
    go_wp2_with fail
    go_ret
    exact ⟨rfl, Kept.refl _ _⟩
  have j0 : ¬ (10000 : Int) < (ls.length : Int) := by omega
  go_wp2_with fail
  refine MUCH.out.mono ?_
  rintro e wm ⟨x2, rfl, hx2, km'⟩
  have km := Lib.hid km'.out
  by_cases hroom : 33554432 < x2
  · have j1 : (33554432 : Int) < (x2 : Int) := by omega
    go_wp2_with fail
    go_ret
    exact ⟨rfl, km.out⟩
  have j1 : ¬ (33554432 : Int) < (x2 : Int) := by omega
  clear MUCH hx2 km'
  go_wp2_with fail
  refine (Kno.known_any _).mono ?_
  rintro e w1 ⟨rfl, k1⟩
  have M0 := Lib.hid ((Wmn.start w).pure (km.out.trans k1 (fun _ hm => by cases hm)))
  clear k1 km
  go_wp2_with fail
  go_loopw [6, 7, 8] (fun cv dv iv wr => ∃ (i n : Nat) (x y : Value) (p q : Nat → Nat) (S R : Nat → List Nat) (st : Nat → WS) (col : Nat → Nat), x = cv ∧ y = dv ∧ iv = .int .i64 i ∧ i ≤ ls.length ∧ n ≤ i ∧ Hid (Wmn w wr x y n p q S R st col [])) (fun _ _ iv _ => ls.length - (intOf iv).toNat)
  case atStart => exact ⟨0, 0, _, _, _, _, _, _, _, _, rfl, rfl, rfl, Nat.zero_le _, Nat.le_refl _, M0⟩
  case round =>
    clear M0
    obtain ⟨i, n, cv, dv, p, q, S, R, st, col, rfl, rfl, rfl, hi, hn, M⟩ := hrel
    by_cases hlt : i < ls.length
    · obtain ⟨rfl, hcap⟩ := h1.out.a (by omega)
      obtain ⟨h4, h5, h6⟩ := (h1.out.kept M.out.kept (fun _ _ hm => by cases hm)).at' i hlt
      obtain ⟨x, hx⟩ : ∃ x, x = ls[i] := ⟨_, rfl⟩
      rw [← hx] at h5 h6
      have j2 : (i : Int) < (ls.length : Int) := by omega
      clear hx h4
      by_cases hlim : x < 0 ∨ 16777216 < x
      · have NEW1 := Lib.hid (fun w => Wrt.new_bad w x hlim h6.1 h6.2)
        have NEW2 := Lib.hid (fun w => Vrt.new_bad w x hlim h6.1 h6.2)
        clear hlim h6
        go_wp2_with fail
        refine (NEW1.out _).mono ?_
        rintro e w2 ⟨rfl, rfl⟩
        go_wp2_with fail
        refine (NEW2.out _).mono ?_
        rintro e w3 ⟨rfl, rfl⟩
        clear NEW1 NEW2
        go_wp2_with fail
        go_roundw
        case rel => exact ⟨i + 1, n, cv, dv, p, q, S, R, st, col, rfl, rfl, by go_num, by omega, by omega, M⟩
        case measure => simp [intOf]; omega
      · obtain ⟨m, rfl⟩ : ∃ m : Nat, x = m := ⟨x.toNat, by omega⟩
        have hm2 : m ≤ 16777216 := by omega
        have NEW1 := Lib.hid (fun w => Wrt.new_good w m m rfl hm2)
        have NEW2 := Lib.hid (fun w => Vrt.new_good w m m rfl hm2)
        have G0 : Hid ((⟨m, [], [], 0⟩ : WS).Ok ∧ (⟨m, [], [], 0⟩ : WS).Fit) := ⟨⟨hm2, Nat.zero_le _, Nat.zero_le _⟩, fun q hq => by cases hq⟩
        clear hlim hm2 h6
        obtain ⟨i0, hi0, hz00, hz01, hz02⟩ := info_parts info_wp
        obtain ⟨i1, hi1, hz10, hz11, hz12⟩ := info_parts info_vp
        obtain ⟨a, c, rfl⟩ := Zb.own_slice M.out.crow
        obtain ⟨b, d, rfl⟩ := Zb.own_slice M.out.drow
        have hbase := M.out.kept.size
        go_wp2_with fail
        refine (NEW1.out _).mono ?_
        rintro e w2 ⟨rfl, ct2, k2⟩
        have h5' : w2.cell? ⟨b1, o1 + i, none⟩ = some (.int .i64 m) := by
          rw [← h5]
          exact World.cell?_of_block (k2.block _ (World.block_lt_of_cell? wr _ h5) (by simp))
        clear h5
        go_wp2_with fail
        refine (NEW2.out _).mono ?_
        rintro e w3 ⟨rfl, rf3, k3⟩
        have hz2 := k2.size
        have hz3 := k3.size
        clear NEW1 NEW2 h5'
        have CR : Hid (w3.ownsRow w.heap.size 28 1 (.slice a n c) n (ptrs p n)) := Zb.ownsRow_kept (Zb.ownsRow_kept M.out.crow k2 (fun _ _ hm => by cases hm)) k3 (fun _ _ hm => by cases hm)
        have DR : Hid (w3.ownsRow w.heap.size 32 1 (.slice b n d) n (ptrs q n)) := Zb.ownsRow_kept (Zb.ownsRow_kept M.out.drow k2 (fun _ _ hm => by cases hm)) k3 (fun _ _ hm => by cases hm)
        have hz4 : n ≤ 10000 := by omega
        refine Lib.hid ?_
        go_wp2_with (at_builtin; refine Zb.wpList_append_src (w3.alloc (.cells #[.pointer (some ⟨wr.heap.size, 0, none⟩)] 28)) rfl (.tmp 65) (.tmp 67) 26 rfl w.heap.size 28 i0 (.pointer none) 1 8 Try.underlying26 hi0 hz00 hz01 hz02 rfl (by decide) (.slice a n c) n (ptrs p n) rfl (CR.out.alloc _) (.slice (some ⟨w3.heap.size, 0, none⟩) 1 1) 1 [.pointer (some ⟨wr.heap.size, 0, none⟩)] rfl (Or.inr ⟨_, _, rfl, World.news_of_block (cs := #[.pointer (some ⟨wr.heap.size, 0, none⟩)]) (by exact heap_alloc_new w3 _)⟩) rfl (by intro u hu; simp at hu; subst hu; rfl) (by unfold maxLen; omega) (by omega) (by simp; omega) ?_; intro v4 w4 hown4 hgrow4 hat4; have O4 := Lib.hid hown4; have G4 := Lib.hid hgrow4; have A4 := Lib.hid hat4; clear hown4 hgrow4 hat4; refine Hid.out ?_)
        have D4 : Hid (w4.ownsRow w.heap.size 32 1 (.slice b n d) n (ptrs q n)) := row_beside (DR.out.alloc _) (CR.out.alloc _) (by decide) G4.out
        obtain ⟨e, f, rfl⟩ := Zb.own_slice O4.out
        have hbase4 : w.heap.size ≤ w4.heap.size := by
          have := ((Kept.refl ((Value.slice a n c).ownBlock.toList) _).grown G4.out (fun k e => Or.inl (by rw [e]; simp))).size
          simp at this
          omega
        refine Lib.hid ?_
        go_wp2_with (at_builtin; refine Zb.wpList_append_src (w4.alloc (.cells #[.pointer (some ⟨w2.heap.size, 0, none⟩)] 32)) rfl (.tmp 69) (.tmp 71) 27 rfl w.heap.size 32 i1 (.pointer none) 1 8 Try.underlying27 hi1 hz10 hz11 hz12 rfl (by decide) (.slice b n d) n (ptrs q n) rfl (D4.out.alloc _) (.slice (some ⟨w4.heap.size, 0, none⟩) 1 1) 1 [.pointer (some ⟨w2.heap.size, 0, none⟩)] rfl (Or.inr ⟨_, _, rfl, World.news_of_block (cs := #[.pointer (some ⟨w2.heap.size, 0, none⟩)]) (by exact heap_alloc_new w4 _)⟩) rfl (by intro u hu; simp at hu; subst hu; rfl) (by unfold maxLen; omega) (by omega) (by simp; omega) ?_; intro v5 w5 hown5 hgrow5 hat5; have O5 := Lib.hid hown5; have G5 := Lib.hid hgrow5; have A5 := Lib.hid hat5; clear hown5 hgrow5 hat5)
        go_roundw
        case rel =>
          obtain ⟨p', q', S', R', st', col', M'⟩ := M.out.push ct2.out k2 rf3.out k3 G0.out ((Kept.refl [] w3).alloc _) O4.out G4.out A4.out ((Kept.refl [] w4).alloc _) O5.out G5.out A5.out
          exact ⟨i + 1, n + 1, _, _, p', q', S', R', st', col', rfl, rfl, by go_num, by omega, by omega, M'⟩
        case measure => simp [intOf]; omega
    · have hn1 : n ≤ 10000 := by omega
      obtain rfl : i = ls.length := by omega
      obtain ⟨k, hk⟩ : ∃ k, k = wr.heap.size := ⟨_, rfl⟩
      have M2 := Lib.hid (M.out.made (.cells #[.slice none 0 0, .slice none 0 0, .slice none 0 0, .slice none 0 0, .slice none 0 0, .slice none 0 0] 39 (0, 0)))
      have B2 := Lib.hid (Bkl.new wr)
      rw [← hk] at B2 M2
      obtain ⟨a, c, rfl⟩ := Zb.own_slice M.out.crow
      obtain ⟨b, d, rfl⟩ := Zb.own_slice M.out.drow
      clear M
      go_wp2_with fail
      rw [← hk]
      clear hk h1 hi hlt hn hln j0
      go_loopw [14] (fun iv wx => ∃ (i m : Nat) (S R : Nat → List Nat) (st : Nat → WS) (col : Nat → Nat) (B : List Nat), iv = .int .i64 i ∧ i ≤ ops.length ∧ m ≤ 2 * i ∧ Hid (Wmn w wx (.slice a n c) (.slice b n d) n p q S R st col B) ∧ Hid (Bkl wx k B m)) (fun iv _ => ops.length - (intOf iv).toNat)
      case atStart => exact ⟨0, 0, S, R, st, _, _, rfl, Nat.zero_le _, Nat.le_refl _, M2, B2⟩
      case round =>
        clear M2 B2 S R st col
        obtain ⟨i, m, S, R, st, col, B, rfl, hi, hm, M, BK⟩ := hrel
        go_upto_region 20 with (fail)
        go_cut [83] from 75 to 82 (fun s70 wx => s70 = .bool (decide (i < ops.length ∧ 0 < n)) ∧ wr = wx)
        case first =>
          by_cases hlt : i < ops.length
          · have j3 : (i : Int) < (ops.length : Int) := by omega
            have e : decide (i < ops.length ∧ 0 < n) = decide (0 < n) := by simp [hlt]
            have E := Lib.hid e
            clear e
            go_wp2_with fail
            go_meet
            case rel => exact ⟨by rw [E.out], rfl⟩
          · have e : decide (i < ops.length ∧ 0 < n) = false := by simp [hlt]
            have E := Lib.hid e
            clear e
            have j3 : ¬ (i : Int) < (ops.length : Int) := by omega
            go_wp2_with fail
            go_meet
            case rel => exact ⟨by rw [E.out], rfl⟩
        case rest =>
          obtain ⟨rfl, rfl⟩ := hcut
          by_cases hlt : i < ops.length ∧ 0 < n
          · rw [decide_eq_true hlt]
            obtain ⟨hlt, hn0⟩ := hlt
            obtain ⟨rfl, hcap⟩ := h2.out.a (by omega)
            have HOPS := Lib.hid (h2.out.ops.kept M.out.kept (fun _ _ hm => by cases hm))
            obtain ⟨h4, h5, h6, -, -⟩ := HOPS.out.at' i hlt
            obtain ⟨o, ho⟩ : ∃ o, o = ops[i] := ⟨_, rfl⟩
            rw [← ho] at h5 h6
            have hwho := h2.out.who i hlt
            rw [← ho] at hwho
            clear ho
            obtain ⟨who, kind, on, ok, ob, os⟩ := o
            have d0 : wr.cell? ⟨b2, o2 + i * 6, none⟩ = some (.int .i64 who) := h5 0 (by omega)
            have d1 : wr.cell? ⟨b2, o2 + i * 6 + 1, none⟩ = some (.int .i64 kind) := h5 1 (by omega)
            have d2 : wr.cell? ⟨b2, o2 + i * 6 + 2, none⟩ = some (.int .u64 on) := h5 2 (by omega)
            have d3 : wr.cell? ⟨b2, o2 + i * 6 + 3, none⟩ = some (.int .i64 ok) := h5 3 (by omega)
            have d4 : wr.cell? ⟨b2, o2 + i * 6 + 4, none⟩ = some ob := h5 4 (by omega)
            have d5 : wr.cell? ⟨b2, o2 + i * 6 + 5, none⟩ = some (.string os) := h5 5 (by omega)
            obtain ⟨k1, hk1⟩ : ∃ x, x = Mad.pk who n := ⟨_, rfl⟩
            have PICK := Lib.hid (fun w => Mad.pick_any who n n w rfl (by omega) (by omega) hwho.1 hwho.2)
            rw [← hk1] at PICK
            have hkn : k1 < n := by rw [hk1]; exact Mad.pk_lt who n hn0
            obtain ⟨ca, cc', ec, hcc, hcell⟩ := ptrs_at M.out.crow hkn
            obtain ⟨da, dd, ed, hdd, hdell⟩ := ptrs_at M.out.drow hkn
            cases ec
            cases ed
            have j3 : (i : Int) < (ops.length : Int) := by omega
            have j4 : (k1 : Int) < (n : Int) := by omega
            have SO := Lib.hid (h6.kept (Kept.refl [] wr).drew (fun _ _ hm => by cases hm))
            clear h5 hk1 h4 h6 HOPS hwho
            go_wp2_with fail
            refine (PICK.out _).mono ?_
            rintro e w2 ⟨rfl, rfl⟩
            clear PICK
            have MD := Lib.hid (M.out.pure (Kept.refl [] wr).drew)
            have BD : Hid (Bkl wr.drew k B m) := BK.out.kept (Kept.refl [] wr).drew (fun _ _ hm => by cases hm)
            have hT : Hid (∀ t ∈ T2, t ∉ (S k1 ++ R k1) ++ B) := fun t ht hm => by
              have h7 := M.out.old t (h2.out.ops.t t ht)
              rcases List.mem_append.1 hm with x | x
              · have := M.out.sc k1 hkn t x; omega
              · have := (M.out.bc t x).2; omega
            have WR := Lib.hid (Two.writes_any wr.drew (p k1) (q k1) (S k1) (R k1) (st k1) (st k1) k B m _ (bs i) T2 (by omega) SO hT (MD.out.ok k1 hkn).1 (MD.out.ok k1 hkn).2 (MD.out.ok k1 hkn).1 (MD.out.ok k1 hkn).2 (MD.out.play BD.out hkn))
            have WR2 : Hid (Calls Try.prog 10 #[.pointer (some ⟨p k1, 0, none⟩), .pointer (some ⟨q k1, 0, none⟩), .agg #[.int .i64 who, .int .i64 kind, .int .u64 on, .int .i64 ok, ob, .string os], .pointer (some ⟨k, 0, none⟩)] wr.drew (WritesOut wr.drew (p k1) (q k1) (S k1) (R k1) (st k1) (st k1) k B m)) := WR
            clear hT SO WR
            go_upto_region 23 with (fail)
            go_cut [16] from 94 to 107 (fun s14 wx => s14 = .bool true ∧ ∃ (st' : WS) (m' : Nat), m' ≤ m + 2 ∧ Hid (Goes (st k1) st') ∧ Hid (PlayOut wr.drew (p k1) (q k1) (S k1) (R k1) k B st' st' m' wx))
            case first =>
              go_region_with (go_at_call 10; refine WR2.out.mono ?_; rintro e w2 ⟨x', st', sv', m', rfl, o', g', -, hm', e'⟩; obtain ⟨rfl, rfl⟩ := e'.out rfl; have g := Lib.hid g'.out; have o := Lib.hid o'.out; clear g' o' e')
              all_goals
                go_wp2_with fail
                go_meet
                case rel => exact ⟨rfl, _, _, hm', g, o⟩
            case rest =>
              obtain ⟨rfl, st', m', hm', g, o⟩ := hcut
              clear WR2 d0 d1 d2 d3 d4 d5 hcell hdell
              obtain ⟨S', R', B', col', M3, B3⟩ := MD.out.step hkn g.out o.out
              have M3h := Lib.hid M3
              have TURN := Lib.hid (Bkl.turn_any wc k B' m' (by omega) B3)
              clear M3 B3 o g
              go_wp2_with fail
              refine TURN.out.mono ?_
              rintro e w3 ⟨rfl, o3⟩
              obtain ⟨B4, col4, M4', b4'⟩ := M3h.out.book o3
              have M4 := Lib.hid M4'
              have b4 := Lib.hid b4'
              clear TURN o3 M3h M4' b4'
              go_wp2_with fail
              go_roundw
              case rel => exact ⟨i + 1, m', S', R', _, col4, B4, by go_num, by omega, by omega, M4, b4⟩
              case measure => simp [intOf]; omega
          · rw [decide_eq_false hlt]
            go_wp2_with fail
            go_loopw [18] (fun iv wx => ∃ (j m2 : Nat) (S R : Nat → List Nat) (st : Nat → WS) (col : Nat → Nat) (B : List Nat), iv = .int .i64 j ∧ j ≤ n ∧ m2 ≤ m + 2 * j ∧ Hid (Wmn w wx (.slice a n c) (.slice b n d) n p q S R st col B) ∧ Hid (Bkl wx k B m2)) (fun iv _ => n - (intOf iv).toNat)
            case atStart => exact ⟨0, m, S, R, st, col, B, rfl, Nat.zero_le _, Nat.le_refl _, M, BK⟩
            case round =>
              clear M BK S R st col B
              obtain ⟨j, m2, S, R, st, col, B, rfl, hj, hm2, MK, BK⟩ := hrel
              by_cases hjn : j < n
              · have MD := Lib.hid (MK.out.pure (Kept.refl [] wr).drew)
                have BD : Hid (Bkl wr.drew k B m2) := BK.out.kept (Kept.refl [] wr).drew (fun _ _ hm => by cases hm)
                have DONE := Lib.hid (Two.done_any wr.drew (p j) (q j) (S j) (R j) (st j) (st j) k B m2 (by omega) (MD.out.ok j hjn).1 (MD.out.ok j hjn).1 (MD.out.play BD.out hjn))
                obtain ⟨ca, cc', ec, hcc, hcell⟩ := ptrs_at MK.out.crow hjn
                obtain ⟨da, dd, ed, hdd, hdell⟩ := ptrs_at MK.out.drow hjn
                cases ec
                cases ed
                have j5 : (j : Int) < (n : Int) := by omega
                clear BD
                go_upto_region 30 with (fail)
                go_cut [19] from 122 to 131 (fun s17 wx => s17 = .bool true ∧ Hid (PlayOut wr.drew (p j) (q j) (S j) (R j) k B (st j) (st j) (m2 + 2) wx))
                case first =>
                  go_region_with (go_at_call 12; refine DONE.out.mono ?_; rintro e w2 ⟨x', rfl, e', o'⟩; obtain rfl := e' rfl; have o := Lib.hid o'; clear o' e')
                  all_goals
                    go_wp2_with fail
                    go_meet
                    case rel => exact ⟨rfl, o⟩
                case rest =>
                  obtain ⟨rfl, o⟩ := hcut
                  clear DONE hcell hdell
                  obtain ⟨S', R', B', col', M3, B3⟩ := MD.out.step hjn (Goes.refl (MD.out.ok j hjn).1 (MD.out.ok j hjn).2) o.out
                  have M3h := Lib.hid M3
                  have B3h := Lib.hid B3
                  clear M3 B3 o
                  obtain ⟨ca2, cc2, ec2, hcc2, hcell2⟩ := ptrs_at M3h.out.crow hjn
                  obtain ⟨da2, dd2, ed2, hdd2, hdell2⟩ := ptrs_at M3h.out.drow hjn
                  cases ec2
                  cases ed2
                  have L1 : Hid (∀ m : Nat, Calls Try.prog 13 #[.pointer (some ⟨p j, 0, none⟩)] (wc.drewN m) fun e w' => e = .returned (.int .i64 ((put1 st j (st j) j).bs.length : Nat)) ∧ w' = wc.drewN m) := fun m => (Wrt.len_any (wc.drewN m) (p j) _ _ ((M3h.out.pure ((Kept.refl [] wc).drewN m)).two j hjn).a).mono fun e w' ⟨h1, h2⟩ => ⟨h1, h2.symm⟩
                  have L2 : Hid (∀ m : Nat, Calls Try.prog 14 #[.pointer (some ⟨q j, 0, none⟩)] (wc.drewN m) fun e w' => e = .returned (.int .i64 ((put1 st j (st j) j).bs.length : Nat)) ∧ w' = wc.drewN m) := fun m => (Vrt.len_any (wc.drewN m) (q j) _ _ ((M3h.out.pure ((Kept.refl [] wc).drewN m)).two j hjn).b).mono fun e w' ⟨h1, h2⟩ => ⟨h1, h2.symm⟩
                  obtain ⟨ln, hln⟩ : ∃ x, x = (put1 st j (st j) j).bs.length := ⟨_, rfl⟩
                  rw [← hln] at L1 L2
                  clear hln
                  go_wp2_with fail
                  go_quiet (first | (go_at_call 13; exact Calls.quiet_of_same (L1.out _)) | (go_at_call 14; exact Calls.quiet_of_same (L2.out _)))
                  clear L1 L2 hcell2 hdell2
                  go_wp2_with fail
                  go_roundw
                  case rel => exact ⟨j + 1, m2 + 2, S', R', _, col', B', by go_num, by omega, by omega, M3h.out.pure ((Kept.refl [] wc).drewN nq), B3h.out.kept ((Kept.refl [] wc).drewN nq) (fun _ _ hm => by cases hm)⟩
                  case measure => simp [intOf]; omega
              · have ENDS := Lib.hid (Bkl.ends_any wr k B m2 (by omega) BK)
                have j5 : ¬ (j : Int) < (n : Int) := by omega
                go_wp2_with fail
                refine ENDS.out.mono ?_
                rintro e w5 ⟨rfl, o5⟩
                go_wp2_with fail
                go_ret
                obtain ⟨_, _, M5, _⟩ := MK.out.book o5
                exact ⟨rfl, M5.kept⟩
end Wws
end Go.Proofs.Ytfdbpbhihccgbaa
