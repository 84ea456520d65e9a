/- WireBack: again walked: bytes are read by a row of steps, parts in parts. -/
import Derived.Test.YtdbhdajedgkpbaaAgm
import Derived.Outline
namespace Go.Proofs.Ytdbhdajedgkpbaa
set_option linter.unusedVariables false
open Go.RowKit
namespace Bkw
open Go.Proofs.Ytdbhdajedgkpbaa.Txt

/-- A step that is neither Open nor Shut is read again. -/
theorem finds_any (w : World) (r : Nat) (T T2 : List Nat) (rest : List UInt8) (p bad : Nat) (o : Stp) (bs : List UInt8) (h7 : o.kind ≠ 7) (ok : StpOk w o bs T2) (hr2 : r ∉ T2) (hT : Hid (∀ k ∈ T, k < w.heap.size)) (hp : p + ((stb o.kind o.n bs o.s).length + rest.length) ≤ 60000)
    (h : Hid (Rd w r T ⟨stb o.kind o.n bs o.s ++ rest, p, 0, bad⟩)) :
    Calls Try.prog 70 #[.pointer (some ⟨r, 0, none⟩), .agg #[.int .i64 o.who, .int .i64 o.kind, .int .u64 o.n, .int .i64 o.k, o.b, .string o.s]] w fun e w' => e = .returned (.bool true) ∧ Hid (Rd w' r T ⟨rest, p + (stb o.kind o.n bs o.s).length, 0, bad⟩) ∧ Kept [r] w w' := by
  obtain ⟨who, kind, n, k, b, s⟩ := o
  have hn := ok.n
  have hs := ok.s
  have hb := ok.b
  simp only at h7 hp h hn hs hb ⊢
  unfold stb at hp h ⊢
  by_cases h1 : kind = 1
  · subst h1
    rw [if_pos rfl] at hp h ⊢
    rw [le_length] at hp ⊢
    exact finds_1 w r T rest p bad who k n b s hn (by omega) h
  rw [if_neg h1] at hp h ⊢
  by_cases h2 : kind = 2
  · subst h2
    rw [if_pos rfl] at hp h ⊢
    rw [le_length] at hp ⊢
    exact finds_2 w r T rest p bad who k n b s hn (by omega) h
  rw [if_neg h2] at hp h ⊢
  by_cases h3 : kind = 3
  · subst h3
    rw [if_pos rfl] at hp h ⊢
    rw [le_length] at hp ⊢
    exact finds_3 w r T rest p bad who k n b s hn (by omega) h
  rw [if_neg h3] at hp h ⊢
  by_cases h4 : kind = 4
  · subst h4
    rw [if_pos rfl] at hp h ⊢
    rw [le_length] at hp ⊢
    exact finds_4 w r T rest p bad who k n b s hn (by omega) h
  rw [if_neg h4] at hp h ⊢
  by_cases h5 : kind = 5
  · subst h5
    rw [if_pos rfl] at hp h ⊢
    exact finds_5 w r T T2 rest bs p bad who k n b s (by omega) hb hr2 h
  rw [if_neg h5] at hp h ⊢
  by_cases h6 : kind = 6
  · subst h6
    rw [if_pos rfl] at hp h ⊢
    rw [tbs_length] at hp ⊢
    have hsz : (str (lett s)).size = (lett s).length := Rdr.str_size _
    exact finds_6 w r T rest p bad who k n b s (by omega) (by omega) hT h
  · rw [if_neg h6] at hp h ⊢
    exact finds_else w r T _ who kind k n b s h1 h2 h3 h4 h5 h6 h

theorem info_rp : (Try.prog.info? 55).map (fun i => (i.zero, i.size, i.bytes)) = some (some (.pointer none), 1, 8) := by kernel_rfl
set_option maxHeartbeats 4000000 in
set_option maxRecDepth 100000 in
theorem again_any (w : World) (b : Value) (bs : List UInt8) (Tb TA : List Nat) (l : List (Stp × List UInt8)) (la : Option Addr) (B c : Nat) (hg : Hid (w.ownsRow B 43 6 (.slice la l.length c) l.length (cellsOf l)))
    (hN : bs.length ≤ 60000) (hl : l.length ≤ 200000) (hrest : Hid (restOf (l.map seen) = [bs])) (hruns : Hid (runs 0 (l.map seen))) (hok : Hid (∀ i (h : i < l.length), StpOk w l[i].1 l[i].2 TA)) (hTA : Hid (∀ k ∈ TA, k < w.heap.size)) (hb : Hid (Src w b bs Tb)) :
    Calls Try.prog 29 #[b, .slice la l.length c] w fun e w' => e = .returned (.bool true) ∧ Kept [] w w' := by
  obtain ⟨ba, bc, hbv⟩ : ∃ a c, b = .slice a bs.length c := by obtain ⟨a, c, h1, -⟩ := hb.out; exact ⟨a, c, h1⟩
  subst hbv
  have NEW := Lib.hid (Rdr.new_any w _ bs Tb (by omega) hb)
  go_enter Try.func29, Try.ntmps29
  go_wp2_with fail
  refine NEW.out.mono ?_
  rintro e w1 ⟨r0, T, rfl, hrd, k1, hr0, hT⟩
  have hs1 := k1.size
  have I0 : Hid (AgI w w1 T bs.length (.slice none 0 0) r0 0 0 [] bs [] w1) :=
    ⟨⟨hrd.out, by show 0 + bs.length ≤ _; omega, (fun y hy => by cases hy), (fun _ => by show 0 + bs.length = _; omega), trivial⟩, World.ownsRow_nil _ _ _ _, fun x hx => by simp at hx; rw [hx]; exact hr0, fun k hk => (hT.out k hk).2, k1, Nat.le_refl _, hs1⟩
  clear NEW hrd k1 hr0 hs1
  go_wp2_with fail
  go_loopw [5, 6, 7] (fun rv ov iv wr => ∃ (i r pos bad : Nat) (ov2 : Value) (tl : List (Nat × Nat × Nat)) (a0 : List UInt8) (rs : List (List UInt8)), rv = .pointer (some ⟨r, 0, none⟩) ∧ ov2 = ov ∧ iv = .int .i64 i ∧ i ≤ l.length ∧ tl.length ≤ i ∧ Hid (restOf ((l.map seen).drop i) = a0 :: rs) ∧ Hid (runs tl.length ((l.map seen).drop i)) ∧ Hid (AgI w w1 T bs.length ov2 r pos bad tl a0 rs wr)) (fun _ _ iv _ => l.length - (intOf iv).toNat)
  case atStart => exact ⟨0, r0, 0, 0, _, [], bs, [], rfl, rfl, rfl, by omega, Nat.le_refl _, hrest, hruns, I0⟩
  case round =>
    clear I0
    obtain ⟨i, r, pos, bad, ov, tl, a0, rs, rfl, rfl, rfl, hi, hti, hre, hru, I⟩ := hrel
    obtain ⟨oa, oc, rfl, ho1, ho2, -⟩ := ownRow_slice I.out.out
    have hrdr : Hid (Rd wr r T ⟨a0, pos, 0, bad⟩) := I.out.stk.1
    have hpN : pos + a0.length ≤ bs.length := I.out.stk.2.1
    have hTw : Hid (∀ k ∈ T, k < wr.heap.size) := fun k hk => Nat.lt_of_lt_of_le (I.out.ts k hk) I.out.big
    by_cases hlt : i < l.length
    · have j1 : (i : Int) < (l.length : Int) := by omega
      obtain ⟨g, rfl⟩ : ∃ g, la = some ⟨g, 0, none⟩ := by
        obtain ⟨la', c', e, -, -, h⟩ := ownRow_slice hg.out
        cases e
        exact h (by omega)
      have hrow := ownRow_kept hg.out I.out.kept (fun _ _ hm => by simp at hm)
      have hce : ∀ j, j < 6 → wr.cell? ⟨g, i * 6 + j, none⟩ = (l[i].1.cells)[j]? := fun j hj => by
        have h6 : l[i].1.cells.length = 6 := rfl
        obtain ⟨u, hu⟩ : ∃ u, (l[i].1.cells)[j]? = some u := ⟨_, List.getElem?_eq_getElem (by rw [h6]; exact hj)⟩
        have := hrow.cells (g := g) rfl (i * 6 + j) u (by rw [cellsOf_get l i hlt j hj]; exact hu)
        rw [Addr.add_lit, Nat.zero_add] at this
        rw [this, hu]
      have hst := (hok.out i hlt).kept I.out.kept (fun _ _ hm => by simp at hm)
      have hdr : (l.map seen).drop i = seen l[i] :: (l.map seen).drop (i + 1) := by
        rw [List.drop_eq_getElem_cons (by simpa using hlt)]
        simp
      rw [hdr] at hre hru
      obtain ⟨⟨o, bo⟩, hx⟩ : ∃ x, x = l[i] := ⟨_, rfl⟩
      rw [← hx] at hce hst hre hru
      simp only [seen] at hre hru
      obtain ⟨who, kind, n, k, b', s⟩ := o
      simp only at hre hru
      have d0 : wr.cell? ⟨g, i * 6, none⟩ = some (.int .i64 who) := hce 0 (by decide)
      have d1 : wr.cell? ⟨g, i * 6 + 1, none⟩ = some (.int .i64 kind) := hce 1 (by decide)
      have d2 : wr.cell? ⟨g, i * 6 + 2, none⟩ = some (.int .u64 n) := hce 2 (by decide)
      have d3 : wr.cell? ⟨g, i * 6 + 3, none⟩ = some (.int .i64 k) := hce 3 (by decide)
      have d4 : wr.cell? ⟨g, i * 6 + 4, none⟩ = some b' := hce 4 (by decide)
      have d5 : wr.cell? ⟨g, i * 6 + 5, none⟩ = some (.string s) := hce 5 (by decide)
      have HST := Lib.hid hst
      obtain ⟨ba', bc', rfl⟩ : ∃ a c, b' = .slice a bo.length c := by obtain ⟨a, c, h1, -⟩ := hst.b; exact ⟨a, c, h1⟩
      clear hce hdr hrow hx hst
      by_cases h7 : kind = 7
      · subst h7
        have hlr := restOf_length _ _ (show runs (tl.length + 1) _ from hru.out)
        obtain ⟨a1, a2, rs', hr2⟩ : ∃ a1 a2 rs', restOf ((l.map seen).drop (i + 1)) = a1 :: a2 :: rs' := by
          match hq : restOf ((l.map seen).drop (i + 1)), hlr with
          | a1 :: a2 :: rs', _ => exact ⟨a1, a2, rs', rfl⟩
          | [a1], h => simp at h
          | [], h => simp at h
        have hre2 : (le 2 a1.length ++ (a1 ++ a2)) :: rs' = a0 :: rs := by
          have h := hre.out
          unfold restOf at h
          rw [if_pos rfl, hr2] at h
          exact h
        obtain ⟨rfl, rfl⟩ := List.cons.inj hre2
        have hal : 2 + a1.length ≤ 60000 := by
          rw [List.length_append, le_length, List.length_append] at hpN
          omega
        obtain ⟨pp1, pp2⟩ := RS.part_add a1 a2 pos bad a1.length rfl (by omega)
        have HRU : Hid (runs (tl.length + 1) ((l.map seen).drop (i + 1))) := hru.out
        have HRE := Lib.hid hr2
        have ok : Hid (⟨le 2 a1.length ++ (a1 ++ a2), pos, 0, bad⟩ : RS).Ok := ⟨by show pos + (le 2 a1.length ++ (a1 ++ a2)).length ≤ _; omega, by show (-9223372036854775808 : Int) ≤ 0; decide, by show (0 : Int) ≤ 9223372036854775807; decide⟩
        have PP1 := Lib.hid pp1
        have PP2 := Lib.hid pp2
        have hbw : w1.heap.size ≤ wr.heap.size := I.out.big
        have htl : tl.length ≤ 200000 := by omega
        obtain ⟨i0, hi0, hz0, hz1, hz2⟩ := info_parts info_rp
        clear hlr hre2 hr2 pp1 pp2 hre hru d0 d2 d3 d4 d5
        go_wp2_with (at_builtin; refine wpList_append_own_at (wr.alloc (.cells #[.pointer (some ⟨r, 0, none⟩)] 55)) rfl (.tmp 38) (.tmp 40) 50 rfl w1.heap.size 55 i0 (.pointer none) 1 8 Try.underlying50 hi0 hz0 hz1 hz2 rfl (by decide) (.slice oa tl.length oc) tl.length (tl.reverse.map (fun x => rp x.1)) rfl (I.out.out.alloc _) ⟨wr.heap.size, 0, none⟩ 1 1 [.pointer (some ⟨r, 0, none⟩)] rfl rfl (World.news_of_block (cs := #[.pointer (some ⟨r, 0, none⟩)]) (by exact heap_alloc_new wr _)) (by intro u hu; simp at hu; subst hu; rfl) (by unfold maxLen; omega) (by omega) (by simp; omega) ?_; intro v2 w2 hown2 hgrow2 hnil2 hat2; have P2 := Lib.hid (AgI.push I.out ((Kept.refl [] wr).alloc _) rfl hown2 hgrow2); obtain ⟨za, zc, rfl, -, -, -⟩ := ownRow_slice hown2; clear hown2 hgrow2 hnil2 hat2)
        have hT2 : Hid (∀ k ∈ T, k < w2.heap.size) := fun k hk => Nat.lt_of_lt_of_le (P2.out.ts k hk) P2.out.big
        have hrd2 : Hid (Rd w2 r T ⟨le 2 a1.length ++ (a1 ++ a2), pos, 0, bad⟩) := P2.out.stk.1
        clear I hrdr d1 hTw
        refine (Rdr.part_any w2 r T _ hT2 ok hrd2).mono ?_
        rintro e w3 ⟨q, rfl, hq, hp1, hp2, k3⟩
        rw [PP2.out] at hp1
        rw [PP1.out] at hp2
        have I3 := Lib.hid (P2.out.part hq hp1.out hp2.out k3)
        clear hT2 hrd2 hq hp1 hp2 k3 PP1 PP2 P2 ok
        go_wp2_with fail
        go_roundw
        case rel => exact ⟨i + 1, q, pos + 2, 0, _, (r, pos + (2 + a1.length), bad) :: tl, a1, a2 :: rs', rfl, rfl, by go_num, by omega, by simp; omega, HRE, HRU, I3⟩
        case measure => simp [intOf]; omega
      · by_cases h8 : kind = 8
        · subst h8
          have hru2 : 0 < tl.length ∧ runs (tl.length - 1) ((l.map seen).drop (i + 1)) := by
            have h := hru.out
            unfold runs at h
            rw [if_neg (by decide), if_pos rfl] at h
            exact h
          obtain ⟨y, tl, rfl⟩ : ∃ y tl', tl = y :: tl' := by
            cases tl with
            | nil => simp at hru2
            | cons y tl' => exact ⟨y, tl', rfl⟩
          have HRU : Hid (runs tl.length ((l.map seen).drop (i + 1))) := hru2.2
          have hlr := restOf_length _ _ HRU.out
          obtain ⟨a1, rs', hr2⟩ : ∃ a1 rs', restOf ((l.map seen).drop (i + 1)) = a1 :: rs' := by
            match hq : restOf ((l.map seen).drop (i + 1)), hlr with
            | a1 :: rs', _ => exact ⟨a1, rs', rfl⟩
            | [], h => simp at h
          have hre2 : [] :: (a1 :: rs') = a0 :: rs := by
            have h := hre.out
            unfold restOf at h
            rw [if_neg (by decide), if_pos rfl, hr2] at h
            exact h
          obtain ⟨rfl, rfl⟩ := List.cons.inj hre2
          have HRE := Lib.hid hr2
          obtain ⟨g2, c2, hov, hc2, hc3, hlast⟩ := I.out.last
          obtain ⟨m, hm⟩ : ∃ m, m = tl.length := ⟨_, rfl⟩
          rw [← hm] at hov hc2 hlast
          have hm2 : (y :: tl).length = m + 1 := by rw [hm]; rfl
          have hti2 : m + 1 ≤ i := by omega
          rw [hov] at I ⊢
          have hend : Rdr.RS.end (⟨[], pos, 0, bad⟩ : RS) = ⟨[], pos, 0, bad⟩ := rfl
          have END := Rdr.end_any wr r T _ hrdr
          rw [hend] at END
          have ENDh := Lib.hid END
          have hlh := Lib.hid hlast
          have HM := Lib.hid hm
          have gne : g2 ≠ r := fun e => by
            obtain ⟨v, hv, -⟩ := hrdr.out
            exact ownRow_neB I.out.out hv (by decide) g2 rfl e
          clear hru2 hlr hre2 hr2 hre hru hend END hlast hm hm2 hov d0 d2 d3 d4 d5 ho1 ho2 oa oc
          go_wp2_with fail
          refine ENDh.out.mono ?_
          rintro e w2 ⟨rfl, h2, k2⟩
          have I2 := Lib.hid (I.out.turn h2.out k2 rfl)
          clear I ENDh k2 hrdr hlh
          go_wp2_with fail
          refine (Rdr.err_any w2 r T _ h2).mono ?_
          rintro e w3 ⟨rfl, k3⟩
          have I3 := Lib.hid (I2.out.pure k3)
          obtain ⟨g3, c3, hov3, -, -, hl3⟩ := I3.out.last
          rw [← HM.out] at hov3 hl3
          cases hov3
          have I4 := Lib.hid (AgI.pop (by rw [HM.out]) I3.out)
          rw [← HM.out] at I4
          have hl4 : w3.cell? ⟨g2, m, none⟩ = some (.pointer (some ⟨y.1, 0, none⟩)) := hl3
          clear I2 I3 k3 h2 hl3
          go_wp2_with fail
          refine ⟨⟨i + 1, y.1, y.2.1, y.2.2, _, tl, a1, rs', rfl, rfl, by go_num, by omega, by have := HM.out; omega, HRE, HRU, I4⟩, by simp [intOf]; omega⟩
        · have q7 : (kind == 7) = false := by rw [beq_eq_false_iff_ne]; exact h7
          have q8 : (kind == 8) = false := by rw [beq_eq_false_iff_ne]; exact h8
          have hlr := restOf_length _ _ (show runs tl.length _ by have h := hru.out; unfold runs at h; rw [if_neg h7, if_neg h8] at h; exact h)
          obtain ⟨a1, rs', hr2⟩ : ∃ a1 rs', restOf ((l.map seen).drop (i + 1)) = a1 :: rs' := by
            match hq : restOf ((l.map seen).drop (i + 1)), hlr with
            | a1 :: rs', _ => exact ⟨a1, rs', rfl⟩
            | [], h => simp at h
          have hre2 : (stb kind n bo s ++ a1) :: rs' = a0 :: rs := by
            have h := hre.out
            unfold restOf at h
            rw [if_neg h7, if_neg h8, hr2] at h
            exact h
          obtain ⟨rfl, rfl⟩ := List.cons.inj hre2
          have HRU : Hid (runs tl.length ((l.map seen).drop (i + 1))) := by have h := hru.out; unfold runs at h; rw [if_neg h7, if_neg h8] at h; exact h
          have HRE := Lib.hid hr2
          rw [List.length_append] at hpN
          have FINDS := Lib.hid (finds_any wr r T TA a1 pos bad ⟨who, kind, n, k, .slice ba' bo.length bc', s⟩ bo h7 HST.out (fun hm => by have a := hTA.out r hm; have b := I.out.far (r, pos, bad) (by simp); simp at b; omega) hTw (by show pos + ((stb kind n bo s).length + a1.length) ≤ _; omega) hrdr)
          clear hlr hre2 hr2 hre hru
          go_wp2_with fail
          refine FINDS.out.mono ?_
          rintro e w2 ⟨rfl, h2, k2⟩
          have I2 := Lib.hid (I.out.turn h2.out k2 (by show pos + (stb kind n bo s).length + a1.length = pos + (stb kind n bo s ++ a1).length; rw [List.length_append]; omega))
          clear FINDS h2 k2 I hrdr d0 d1 d2 d3 d4 d5
          go_wp2_with fail
          go_roundw
          case rel => exact ⟨i + 1, r, _, bad, _, tl, a1, _, rfl, rfl, by go_num, by omega, by omega, HRE, HRU, I2⟩
          case measure => simp [intOf]; omega
    · have hie : (l.map seen).drop i = [] := List.drop_eq_nil_of_le (by simp; omega)
      have j1 : ¬ (i : Int) < (l.length : Int) := by omega
      rw [hie] at hre hru
      obtain ⟨rfl, rfl⟩ : [] = a0 ∧ [] = rs := by
        have h : [[]] = a0 :: rs := hre.out
        exact List.cons.inj h
      have htl0 : tl = [] := List.eq_nil_of_length_eq_zero hru.out
      subst htl0
      have hpe : pos = bs.length := by have h := I.out.stk.2.2.2.1 rfl; simpa using h
      have hend : Rdr.RS.end (⟨[], pos, 0, bad⟩ : RS) = ⟨[], pos, 0, bad⟩ := rfl
      have END := Rdr.end_any wr r T _ hrdr
      rw [hend] at END
      have ENDh := Lib.hid END
      have hle : (([] : List (Nat × Nat × Nat)).length : Nat) = 0 := rfl
      rw [hle]
      subst hpe
      clear hre hru hie hend END hle hti ho1
      go_wp2_with fail
      refine ENDh.out.mono ?_
      rintro e w2 ⟨rfl, h2, k2⟩
      have I2 := Lib.hid (I.out.turn h2.out k2 rfl)
      clear I ENDh k2 hrdr
      go_wp2_with fail
      refine (Rdr.err_any w2 r T _ h2).mono ?_
      rintro e w3 ⟨rfl, k3⟩
      have I3 := Lib.hid (I2.out.pure k3)
      have h3 : Hid (Rd w3 r T ⟨[], bs.length, 0, bad⟩) := I3.out.stk.1
      have LEFT := Rdr.left_any w3 r T _ h3
      have hl0 : ((if (⟨[], bs.length, 0, bad⟩ : RS).err = 0 then (⟨[], bs.length, 0, bad⟩ : RS).left.length else 0 : Nat) : Int) = 0 := rfl
      rw [hl0] at LEFT
      have LEFTh := Lib.hid LEFT
      clear I2 k3 h2 hl0 LEFT
      go_wp2_with fail
      refine LEFTh.out.mono ?_
      rintro e w4 ⟨rfl, rfl⟩
      go_wp2_with fail
      refine (Rdr.at_any w3 r T _ h3).mono ?_
      rintro e w4 ⟨rfl, rfl⟩
      go_wp2_with fail
      go_ret
      exact ⟨rfl, I3.out.kept⟩
end Bkw
end Go.Proofs.Ytdbhdajedgkpbaa
