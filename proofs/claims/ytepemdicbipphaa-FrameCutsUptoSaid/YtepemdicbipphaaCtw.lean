/- FrameCuts, walked. -/
import Derived.Test.YtepemdicbipphaaCtm
import Derived.Test.YtepemdicbipphaaPik
import Derived.Test.YtepemdicbipphaaKno
import Derived.Test.YtepemdicbipphaaOpn
namespace Go.Proofs.Ytepemdicbipphaa
set_option linter.unusedVariables false
open Go.RowKit

/-- Numbers that come in. -/
structure Nmu (w : World) (a : Option Addr) (cap b off : Nat) (ls : List Nat) (T : List Nat) : Prop where
  n : ls.length ≤ 1048576
  a : 0 < ls.length → a = some ⟨b, off, none⟩ ∧ ls.length ≤ cap
  t : ∀ i ∈ T, i < w.heap.size
  at' : ∀ i (hi : i < ls.length), b ∈ T ∧ w.cell? ⟨b, off + i, none⟩ = some (.int .u32 ls[i]) ∧ ls[i] ≤ 4294967295
theorem Nmu.kept {w w' : World} {a : Option Addr} {cap b off : Nat} {ls : List Nat} {T S : List Nat} (h : Nmu w a cap b off ls T) (hk : Kept S w w') (hd : ∀ i ∈ T, i ∉ S) : Nmu w' a cap b off ls T := by
  refine ⟨h.n, h.a, fun i hi => Nat.lt_of_lt_of_le (h.t i hi) hk.size, fun i hi => ?_⟩
  obtain ⟨h1, h2, h3⟩ := h.at' i hi
  refine ⟨h1, ?_, h3⟩
  rw [← h2]
  exact World.cell?_of_block (hk.block b (h.t b h1) (hd b h1))
theorem CS.new_ok {n : Nat} (h : limB n = true) : Gd ⟨n, [], 0, 0, false⟩ 0 := by
  have := of_decide_eq_true h
  refine ⟨⟨this.1, this.2, fun _ h => ?_, fun h => ?_⟩, Nat.le_refl _, Nat.le_refl _⟩
  · simp at h
  · cases h

namespace Law
set_option maxHeartbeats 4000000 in
set_option maxRecDepth 100000 in
theorem cuts_walk (w : World) (a1 a2 : Option Addr) (c1 c2 b1 o1 b2 o2 : Nat) (ls : List Nat) (ops : List Stp) (bs : Nat → List UInt8) (T2 T1 : List Nat)
    (h1 : Hid (Nmu w a1 c1 b1 o1 ls T1)) (h2 : Hid (Ops w a2 c2 b2 o2 ops bs T2)) :
    Calls Try.prog 4 #[.slice a1 ls.length c1, .slice a2 ops.length c2] w fun e w' => e = .returned (.bool true) ∧ Kept [] w w' := by
  have MUCH := Lib.hid (much_any w a2 c2 b2 o2 ops bs T2 h2)
  obtain ⟨x2, hx2⟩ : ∃ x, x = muchF bs 0 0 ops := ⟨_, rfl⟩
  have COST := Lib.hid (much_cost bs ops 0 0)
  have m2 : muchF bs 0 0 ops ≤ 35651584 := muchF_le bs ops 0 0 (fun j hj => by
    obtain ⟨-, -, ⟨_, _, _, _, _, h, _⟩, _⟩ := h2.out.at' j hj
    rw [Nat.zero_add]
    exact h) (by omega)
  rw [← hx2] at MUCH COST m2
  clear hx2
  have hln := h1.out.n
  have hon := h2.out.n
  go_enter Try.func4, Try.ntmps4
  by_cases hlen : 10000 < ls.length
  · have j0 : (10000 : Int) < (ls.length : Int) := by omega
    go_wp2_with fail
    go_ret
    exact ⟨rfl, Kept.refl _ _⟩
  have j0 : ¬ (10000 : Int) < (ls.length : Int) := by omega
  go_wp2_with fail
  refine MUCH.out.mono ?_
  rintro e wm ⟨rfl, e0⟩
  replace e0 := e0.symm
  subst e0
  by_cases hroom : 33554432 < x2
  · have j1 : (33554432 : Int) < (x2 : Int) := by omega
    go_wp2_with fail
    go_ret
    exact ⟨rfl, Kept.refl _ _⟩
  have j1 : ¬ (33554432 : Int) < (x2 : Int) := by omega
  have COST2 : Hid (costL bs 0 ops ≤ 33554432) := by have := COST.out (by omega); show _ ≤ _; omega
  clear MUCH COST m2
  go_wp2_with fail
  refine (known_any _).mono ?_
  rintro e w1 ⟨rfl, k1⟩
  have M0 := Lib.hid ((Mny.start w).pure k1)
  clear k1
  go_wp2_with fail
  go_loopw [6, 7, 8] (fun cv dv iv wr => ∃ (i n : Nat) (x y : Value) (p q : Nat → Nat) (S R : Nat → List Nat) (st : Nat → CS) (col : Nat → Nat), x = cv ∧ y = dv ∧ iv = .int .i64 i ∧ i ≤ ls.length ∧ n ≤ i ∧ Hid (Mny w wr x y n p q S R st 0 col)) (fun _ _ iv _ => ls.length - (intOf iv).toNat)
  case atStart => exact ⟨0, 0, _, _, _, _, _, _, _, _, rfl, rfl, rfl, Nat.zero_le _, Nat.le_refl _, M0⟩
  case round =>
    clear M0
    obtain ⟨i, n, cv, dv, p, q, S, R, st, col, rfl, rfl, rfl, hi, hn, M⟩ := hrel
    by_cases hlt : i < ls.length
    · obtain ⟨rfl, hcap⟩ := h1.out.a (by omega)
      obtain ⟨h4, h5, h6⟩ := (h1.out.kept M.out.kept (fun _ _ hm => by cases hm)).at' i hlt
      obtain ⟨x, hx⟩ : ∃ x, x = ls[i] := ⟨_, rfl⟩
      rw [← hx] at h5 h6
      have j2 : (i : Int) < (ls.length : Int) := by omega
      clear hx h4
      cases hlim : limB x with
      | false =>
        have NEW1 := Lib.hid (fun w => Cut.new_bad w x x rfl hlim)
        have NEW2 := Lib.hid (fun w => Ref.new_bad w x x rfl hlim)
        clear hlim
        go_wp2_with fail
        refine (NEW1.out _).mono ?_
        rintro e w2 ⟨rfl, rfl⟩
        go_wp2_with fail
        refine (NEW2.out _).mono ?_
        rintro e w3 ⟨rfl, rfl⟩
        clear NEW1 NEW2
        go_wp2_with fail
        go_roundw
        case rel => exact ⟨i + 1, n, cv, dv, p, q, S, R, st, col, rfl, rfl, by go_num, by omega, by omega, M⟩
        case measure => simp [intOf]; omega
      | true =>
        have hl := of_decide_eq_true hlim
        have NEW1 := Lib.hid (fun w => Cut.new_good w x x rfl hl.1 hl.2)
        have NEW2 := Lib.hid (fun w => Ref.new_good w x x rfl hlim)
        have G0 := Lib.hid (CS.new_ok hlim)
        clear hlim hl
        obtain ⟨i0, hi0, hz00, hz01, hz02⟩ := info_parts info_fc
        obtain ⟨i1, hi1, hz10, hz11, hz12⟩ := info_parts info_rc
        obtain ⟨a, c, rfl⟩ := own_slice M.out.crow
        obtain ⟨b, d, rfl⟩ := own_slice M.out.drow
        have hbase := M.out.kept.size
        go_wp2_with fail
        refine (NEW1.out _).mono ?_
        rintro e w2 ⟨rfl, ct2, k2⟩
        have h5' : w2.cell? ⟨b1, o1 + i, none⟩ = some (.int .u32 x) := by
          rw [← h5]
          exact World.cell?_of_block (k2.block _ (World.block_lt_of_cell? wr _ h5) (by simp))
        clear h5
        go_wp2_with fail
        refine (NEW2.out _).mono ?_
        rintro e w3 ⟨rfl, rf3, k3⟩
        have hz2 := k2.size
        have hz3 := k3.size
        clear NEW1 NEW2 h5'
        have CR : Hid (w3.ownsRow w.heap.size 40 1 (.slice a n c) n (ptrs p n)) := ownsRow_kept (ownsRow_kept M.out.crow k2 (fun _ _ hm => by cases hm)) k3 (fun _ _ hm => by cases hm)
        have DR : Hid (w3.ownsRow w.heap.size 42 1 (.slice b n d) n (ptrs q n)) := ownsRow_kept (ownsRow_kept M.out.drow k2 (fun _ _ hm => by cases hm)) k3 (fun _ _ hm => by cases hm)
        have hz4 : n ≤ 10000 := by omega
        refine Lib.hid ?_
        go_wp2_with (at_builtin; refine wpList_append_src (w3.alloc (.cells #[.pointer (some ⟨wr.heap.size, 0, none⟩)] 40)) rfl (.tmp 52) (.tmp 54) 38 rfl w.heap.size 40 i0 (.pointer none) 1 8 Try.underlying38 hi0 hz00 hz01 hz02 rfl (by decide) (.slice a n c) n (ptrs p n) rfl (CR.out.alloc _) (.slice (some ⟨w3.heap.size, 0, none⟩) 1 1) 1 [.pointer (some ⟨wr.heap.size, 0, none⟩)] rfl (Or.inr ⟨_, _, rfl, World.news_of_block (cs := #[.pointer (some ⟨wr.heap.size, 0, none⟩)]) (by exact heap_alloc_new w3 _)⟩) rfl (by intro u hu; simp at hu; subst hu; rfl) (by unfold maxLen; omega) (by omega) (by simp; omega) ?_; intro v4 w4 hown4 hgrow4 hat4; have O4 := Lib.hid hown4; have G4 := Lib.hid hgrow4; have A4 := Lib.hid hat4; clear hown4 hgrow4 hat4; refine Hid.out ?_)
        have D4 : Hid (w4.ownsRow w.heap.size 42 1 (.slice b n d) n (ptrs q n)) := row_beside (DR.out.alloc _) (CR.out.alloc _) (by decide) G4.out
        obtain ⟨e, f, rfl⟩ := own_slice O4.out
        have hbase4 : w.heap.size ≤ w4.heap.size := by
          have := ((Kept.refl ((Value.slice a n c).ownBlock.toList) _).grown G4.out (fun k e => Or.inl (by rw [e]; simp))).size
          simp at this
          omega
        refine Lib.hid ?_
        go_wp2_with (at_builtin; refine wpList_append_src (w4.alloc (.cells #[.pointer (some ⟨w2.heap.size, 0, none⟩)] 42)) rfl (.tmp 56) (.tmp 58) 39 rfl w.heap.size 42 i1 (.pointer none) 1 8 Try.underlying39 hi1 hz10 hz11 hz12 rfl (by decide) (.slice b n d) n (ptrs q n) rfl (D4.out.alloc _) (.slice (some ⟨w4.heap.size, 0, none⟩) 1 1) 1 [.pointer (some ⟨w2.heap.size, 0, none⟩)] rfl (Or.inr ⟨_, _, rfl, World.news_of_block (cs := #[.pointer (some ⟨w2.heap.size, 0, none⟩)]) (by exact heap_alloc_new w4 _)⟩) rfl (by intro u hu; simp at hu; subst hu; rfl) (by unfold maxLen; omega) (by omega) (by simp; omega) ?_; intro v5 w5 hown5 hgrow5 hat5; have O5 := Lib.hid hown5; have G5 := Lib.hid hgrow5; have A5 := Lib.hid hat5; clear hown5 hgrow5 hat5)
        go_roundw
        case rel =>
          obtain ⟨p', q', S', R', st', col', M'⟩ := M.out.push ct2.out k2 rf3.out k3 G0.out ((Kept.refl [] w3).alloc _) O4.out G4.out A4.out ((Kept.refl [] w4).alloc _) O5.out G5.out A5.out
          exact ⟨i + 1, n + 1, _, _, p', q', S', R', st', col', rfl, rfl, by go_num, by omega, by omega, M'⟩
        case measure => simp [intOf]; omega
    · have hn1 : n ≤ 10000 := by omega
      obtain rfl : i = ls.length := by omega
      obtain ⟨k, hk⟩ : ∃ k, k = wr.heap.size := ⟨_, rfl⟩
      have M2 := Lib.hid (M.out.alloc (c := 6) (.cells #[.slice none 0 0, .slice none 0 0, .slice none 0 0, .slice none 0 0, .slice none 0 0, .slice none 0 0] 28 (0, 0)) hk)
      have B2 := Lib.hid (Bkd.new wr col)
      rw [← hk] at B2
      obtain ⟨a, c, rfl⟩ := own_slice M.out.crow
      obtain ⟨b, d, rfl⟩ := own_slice M.out.drow
      clear M
      go_wp2_with fail
      rw [← hk]
      clear hk h1 hi hlt hn hln j0
      go_loopw [12] (fun iv wx => ∃ (i N F : Nat) (S R : Nat → List Nat) (st : Nat → CS) (col : Nat → Nat), iv = .int .i64 i ∧ i ≤ ops.length ∧ Hid (N + 5 * costL bs i (ops.drop i) ≤ 167772160) ∧ Hid (F + costL bs i (ops.drop i) ≤ 33554432) ∧ Hid (Mny w wx (.slice a n c) (.slice b n d) n p q S R st F col) ∧ Hid (Bkd wx k col N)) (fun iv _ => ops.length - (intOf iv).toNat)
      case atStart => exact ⟨0, 0, 0, S, R, st, _, rfl, Nat.zero_le _, (by have := COST2.out; show _ ≤ _; rw [List.drop_zero]; omega), (by have := COST2.out; show _ ≤ _; rw [List.drop_zero]; omega), M2, B2⟩
      case round =>
        clear M2 B2 S R st col
        obtain ⟨i, N, F, S, R, st, col, rfl, hi, CN, CF, M, B⟩ := hrel
        go_upto_region 20 with (fail)
        go_cut [70] from 62 to 69 (fun s70 wx => s70 = .bool (decide (i < ops.length ∧ 0 < n)) ∧ wr = wx)
        case first =>
          by_cases hlt : i < ops.length
          · have j3 : (i : Int) < (ops.length : Int) := by omega
            have e : decide (i < ops.length ∧ 0 < n) = decide (0 < n) := by simp [hlt]
            have E := Lib.hid e
            clear e
            go_wp2_with fail
            go_meet
            case rel => exact ⟨by rw [E.out], rfl⟩
          · have e : decide (i < ops.length ∧ 0 < n) = false := by simp [hlt]
            have E := Lib.hid e
            clear e
            have j3 : ¬ (i : Int) < (ops.length : Int) := by omega
            go_wp2_with fail
            go_meet
            case rel => exact ⟨by rw [E.out], rfl⟩
        case rest =>
          obtain ⟨rfl, rfl⟩ := hcut
          by_cases hlt : i < ops.length ∧ 0 < n
          · rw [decide_eq_true hlt]
            obtain ⟨hlt, hn0⟩ := hlt
            obtain ⟨rfl, hcap⟩ := h2.out.a (by omega)
            obtain ⟨h4, h5, h6, h7, h8, h9⟩ := (h2.out.kept M.out.kept (fun _ _ hm => by cases hm)).at' i hlt
            have CNX := Lib.hid (cost_next bs ops i hlt)
            obtain ⟨o, ho⟩ : ∃ o, o = ops[i] := ⟨_, rfl⟩
            rw [← ho] at h5 h6 h7 h8 h9 CNX
            clear ho
            obtain ⟨who, kind, ob, on⟩ := o
            have d0 : wr.cell? ⟨b2, o2 + i * 4, none⟩ = some (.int .i64 who) := h5 0 (by omega)
            have d1 : wr.cell? ⟨b2, o2 + i * 4 + 1, none⟩ = some (.int .i64 kind) := h5 1 (by omega)
            have d2 : wr.cell? ⟨b2, o2 + i * 4 + 2, none⟩ = some ob := h5 2 (by omega)
            have d3 : wr.cell? ⟨b2, o2 + i * 4 + 3, none⟩ = some (.int .u32 on) := h5 3 (by omega)
            obtain ⟨k1, hk1⟩ : ∃ x, x = pk who n := ⟨_, rfl⟩
            have PICK := Lib.hid (fun w => pick_any w who n n rfl hn0 (by omega) h8 h9)
            rw [← hk1] at PICK
            have hkn : k1 < n := by rw [hk1]; exact pk_lt who n hn0
            obtain ⟨ca, cc', ec, hcc, hcell⟩ := ptrs_at M.out.crow hkn
            obtain ⟨da, dd, ed, hdd, hdell⟩ := ptrs_at M.out.drow hkn
            cases ec
            cases ed
            obtain ⟨oa, oc, rfl, q1, q2, q3, q4⟩ := h6
            have j3 : (i : Int) < (ops.length : Int) := by omega
            have j4 : (k1 : Int) < (n : Int) := by omega
            clear h5 hk1 h4
            go_wp2_with fail
            refine (PICK.out _).mono ?_
            rintro e w2 ⟨rfl, rfl⟩
            clear PICK
            have MD := Lib.hid (M.out.pure (Kept.refl [] wr).drew)
            have BD : Hid (Bkd wr.drew k col N) := B.out.kept (Kept.refl [] wr).drew (fun b hb => by cases hb) (fun _ _ => rfl)
            have CC := Lib.hid (And.intro CN.out (And.intro CF.out CNX.out))
            have hT : Hid (∀ t ∈ T2, col t = 7) := fun t ht => M.out.old t (h2.out.t t ht)
            have hT2 : Hid (∀ t ∈ T2, t < wr.drew.heap.size) := fun t ht => by
              have h1 := h2.out.t t ht
              have h2 := M.out.kept.size
              show t < wr.heap.size
              omega
            have DOES := Lib.hid (Two.does_any wr.drew k col N (p k1) (q k1) (S k1) (R k1) T2 (st k1) (8 + 2 * k1) F who kind (.slice oa (bs i).length oc) on (bs i) h7 (by omega) (by have := CC.out; omega) (by have := CC.out; omega) ⟨oa, oc, rfl, q1, q2⟩ (MD.out.gd k1 hkn) (q4.kept (Kept.refl [] wr).drew (fun _ _ hm => by cases hm)) hT hT2 (MD.out.pl BD.out hkn))
            clear hT hT2 q4 CN CF CNX
            go_upto_region 23 with (fail)
            go_cut [14] from 81 to 94 (fun s14 wx => s14 = .bool true ∧ ∃ st', Hid (Gd st' (F + (bs i).length + if kind = 6 then 70000 else 0)) ∧ Hid (PlOut wr.drew k col (N + 5 * (bs i).length + 10) (p k1) (q k1) st' (8 + 2 * k1) wx))
            case first =>
              go_region_with (go_at_call 15; refine DOES.out.mono ?_; rintro e w2 ⟨rfl, st', g', o'⟩; have g := Lib.hid g'.out; have o := Lib.hid o'; clear g' o')
              all_goals
                go_wp2_with fail
                go_meet
                case rel => exact ⟨rfl, st', g, o⟩
            case rest =>
              obtain ⟨rfl, st', g, o⟩ := hcut
              clear DOES d0 d1 d2 d3 hcell hdell
              obtain ⟨S', R', col', M3, B3⟩ := MD.out.step hkn g.out (by omega) o.out
              have M3h := Lib.hid M3
              have TURN := Lib.hid (Bk.turn_any wc k col' _ (by have := CC.out; omega) B3)
              clear M3 B3 o g
              go_wp2_with fail
              refine TURN.out.mono ?_
              rintro e w3 ⟨rfl, col3, b3, f3⟩
              have M4 := Lib.hid (M3h.out.book f3.out)
              have B4 := Lib.hid b3.out
              have CN4 : Hid (N + 5 * (bs i).length + 10 + 5 * costL bs (i + 1) (ops.drop (i + 1)) ≤ 167772160) := by have := CC.out; show _ ≤ _; omega
              have CF4 : Hid ((F + (bs i).length + if kind = 6 then 70000 else 0) + costL bs (i + 1) (ops.drop (i + 1)) ≤ 33554432) := by have := CC.out; show _ ≤ _; omega
              clear TURN b3 f3 M3h CC
              go_wp2_with fail
              go_roundw
              case rel => exact ⟨i + 1, _, _, S', R', _, col3, by go_num, by omega, CN4, CF4, M4, B4⟩
              case measure => simp [intOf]; omega
          · rw [decide_eq_false hlt]
            have hfd : Hid (F ≤ 1000000000000) := by have := CF.out; show _ ≤ _; omega
            have hN : Hid (N ≤ 1000000000) := by have := CN.out; show _ ≤ _; omega
            clear CN CF COST2
            go_wp2_with fail
            go_loopw [16] (fun iv wx => ∃ (i : Nat), iv = .int .i64 i ∧ i ≤ n ∧ Hid (Kept [] wr wx)) (fun iv _ => n - (intOf iv).toNat)
            case atStart => exact ⟨0, rfl, Nat.zero_le _, Kept.refl _ _⟩
            case round =>
              obtain ⟨j, rfl, hj, K⟩ := hrel
              have MK := Lib.hid (M.out.pure K.out)
              have BK : Hid (Bkd wr k col N) := B.out.kept K.out (fun b hb => by cases hb) (fun _ _ => rfl)
              by_cases hjn : j < n
              · have MD := Lib.hid (MK.out.pure (Kept.refl [] wr).drew)
                have BD : Hid (Bkd wr.drew k col N) := BK.out.kept (Kept.refl [] wr).drew (fun b hb => by cases hb) (fun _ _ => rfl)
                have ASK := Lib.hid (Two.asked_any wr.drew k col N (p j) (q j) (S j) (R j) (st j) (8 + 2 * j) F hfd.out (MD.out.gd j hjn) (MD.out.pl BD.out hjn))
                obtain ⟨ca, cc', ec, hcc, hcell⟩ := ptrs_at MK.out.crow hjn
                obtain ⟨da, dd, ed, hdd, hdell⟩ := ptrs_at MK.out.drow hjn
                cases ec
                cases ed
                have j5 : (j : Int) < (n : Int) := by omega
                clear MD BD
                go_upto_region 30 with (fail)
                go_cut [17] from 109 to 117 (fun s17 wx => s17 = .bool true ∧ Hid (Kept [] wr wx))
                case first =>
                  go_region_with (go_at_call 16; refine ASK.out.mono ?_; rintro e w2 ⟨rfl, k2'⟩; have k2 : Hid (Kept [] wr w2) := (Kept.refl [] wr).drew.trans k2' (fun _ hm => by cases hm); clear k2')
                  all_goals
                    go_wp2_with fail
                    go_meet
                    case rel => exact ⟨rfl, k2⟩
                case rest =>
                  obtain ⟨rfl, k2⟩ := hcut
                  clear ASK hcell hdell
                  go_wp2_with fail
                  go_roundw
                  case rel => exact ⟨j + 1, by go_num, by omega, K.out.trans k2.out (fun _ hm => by cases hm)⟩
                  case measure => simp [intOf]; omega
              · have ENDS := Lib.hid (Bk.ends_any wr k col N hN.out BK)
                have j5 : ¬ (j : Int) < (n : Int) := by omega
                go_wp2_with fail
                refine ENDS.out.mono ?_
                rintro e w5 ⟨rfl, col5, b5, f5⟩
                go_wp2_with fail
                go_ret
                exact ⟨rfl, (MK.out.book f5.out).kept⟩
end Law
end Go.Proofs.Ytepemdicbipphaa
