/- NamesUnder walked. -/
import Derived.Test.YtjdhgeikbkjnoaaDoorUmt
import Derived.Test.YtjdhgeikbkjnoaaDoorAwn
import Derived.Test.YtjdhgeikbkjnoaaDoorLdn
import Derived.Test.YtjdhgeikbkjnoaaDoorLaw
namespace Go.Proofs.YtjdhgeikbkjnoaaDoor.namesUnder
open Go.ChangeShapes Go.WideShapes Go.ChangeAt Go.RowKit Go.Shelf
attribute [local go_sem] Oper.semAt_some
open Go.Proofs.YtjdhgeikbkjnoaaDoor.Nm Go.Proofs.YtjdhgeikbkjnoaaDoor.Utf Go.Proofs.YtjdhgeikbkjnoaaDoor.Txt Go.PlainAid
set_option linter.unusedVariables false

/-- Clean, at the clean form. -/
theorem clean2 (w : World) (s : ByteArray) (hs : s.size ≤ 1073741824) : Calls Tryd.prog 11 #[.string s] w fun e w' =>
    (okl (dl s) = true ∧ e = .returned (.tuple #[.string (clf s), .int .i64 0]) ∧ Kept [] w w') ∨ (okl (dl s) = false ∧ e = .returned (.tuple #[.string ⟨#[]⟩, .int .i64 51]) ∧ Kept [] w w') := by
  refine (clean_any w s hs).mono ?_
  rintro e w' (⟨ho, ps, hps, rfl, k⟩ | h)
  · have e1 := pt_of hps
    subst e1
    exact Or.inl ⟨ho, rfl, k⟩
  · exact Or.inr h
/-- Split, at the parts. -/
theorem split2 (w : World) (s : ByteArray) (hs : s.size ≤ 1073741824) (ho : okl (dl s) = true) : Calls Tryd.prog 12 #[.string s] w fun e w' =>
    ∃ pv, e = .returned (.tuple #[.agg #[.bool (rooted (dl s)), pv], .int .i64 0]) ∧ Hid (Row w' w.heap.size pv (pt s)) ∧ Hid (Kept [] w w') := by
  refine (split_any w s hs).mono ?_
  rintro e w' (⟨ho, pv, xs, rfl, hR, hE, k⟩ | ⟨h, -, -⟩)
  · have e1 := pt_of hE.out
    subst e1
    exact ⟨pv, rfl, hR, k⟩
  · rw [ho] at h; cases h

/-- Between two rounds. -/
structure UnI (w : World) (Rp : Nat) (r : Bool) (q v12 v13 : Value) (xs ys : List ByteArray) (W : World) : Prop where
  box : W.heap[Rp]? = some (.cells #[.bool r, q] 28 (0, 0))
  r12 : Row W w.heap.size v12 xs
  r13 : Row W w.heap.size v13 ys
  ap : ∀ b, v12.ownBlock = some b → v13.ownBlock = some b → False
  kept : Kept [] w W
section
variable {w W W1 : World} {Rp : Nat} {r : Bool} {q v12 v13 v' : Value} {xs ys : List ByteArray} {x : ByteArray}
theorem UnI.call (h : UnI w Rp r q v12 v13 xs ys W) (k : Kept [] W W1) : UnI w Rp r q v12 v13 xs ys W1 :=
  ⟨(k.block _ (block_lt h.box) (by simp)).trans h.box, h.r12.kept k (fun _ _ hm => by simp at hm), h.r13.kept k (fun _ _ hm => by simp at hm), h.ap, h.kept.trans k (fun i hi => by simp at hi)⟩
theorem UnI.push12 (h : UnI w Rp r q v12 v13 xs ys W) (hown : W1.ownsRow w.heap.size 9 1 v' (xs.length + 1) (xs.map sv ++ [sv x])) (hg : (W.alloc (.cells #[sv x] 9)).grownBy W1 v12.ownBlock)
    (hat : v'.ownBlock = v12.ownBlock ∨ v'.ownBlock = some (W.alloc (.cells #[sv x] 9)).heap.size) : UnI w Rp r q v' v13 (xs ++ [x]) ys W1 := by
  have ka : Kept [] W (W.alloc (.cells #[sv x] 9)) := (Kept.refl _ _).alloc _
  have kg : Kept v12.ownBlock.toList (W.alloc (.cells #[sv x] 9)) W1 := (Kept.refl _ _).grown hg (fun k e => Or.inl (by rw [e]; simp))
  have k1 : Kept v12.ownBlock.toList W W1 := (ka.mono (fun i hi => by simp at hi)).trans kg (fun i hi => Or.inl hi)
  refine ⟨(k1.block _ (block_lt h.box) (fun hm => own_ne h.r12 h.box (by decide) Rp (by simpa using hm) rfl)).trans h.box, by unfold Row; rw [List.length_append, List.map_append]; exact hown, h.r13.kept k1 (fun b hb hm => h.ap b (by simpa using hm) hb), fun b hb hb2 => ?_, h.kept.trans k1 (fun i hi => Or.inr (World.ownsRow.lt h.r12 i (by simpa using hi)).1)⟩
  rcases hat with e | e
  · exact h.ap b (by rw [← e]; exact hb) hb2
  · rw [e] at hb; cases hb
    have := (World.ownsRow.lt h.r13 _ hb2).2
    simp at this
    omega
theorem UnI.push13 (h : UnI w Rp r q v12 v13 xs ys W) (hown : W1.ownsRow w.heap.size 9 1 v' (ys.length + 1) (ys.map sv ++ [sv x])) (hg : (W.alloc (.cells #[sv x] 9)).grownBy W1 v13.ownBlock)
    (hat : v'.ownBlock = v13.ownBlock ∨ v'.ownBlock = some (W.alloc (.cells #[sv x] 9)).heap.size) : UnI w Rp r q v12 v' xs (ys ++ [x]) W1 := by
  have ka : Kept [] W (W.alloc (.cells #[sv x] 9)) := (Kept.refl _ _).alloc _
  have kg : Kept v13.ownBlock.toList (W.alloc (.cells #[sv x] 9)) W1 := (Kept.refl _ _).grown hg (fun k e => Or.inl (by rw [e]; simp))
  have k1 : Kept v13.ownBlock.toList W W1 := (ka.mono (fun i hi => by simp at hi)).trans kg (fun i hi => Or.inl hi)
  refine ⟨(k1.block _ (block_lt h.box) (fun hm => own_ne h.r13 h.box (by decide) Rp (by simpa using hm) rfl)).trans h.box, h.r12.kept k1 (fun b hb hm => h.ap b hb (by simpa using hm)), by unfold Row; rw [List.length_append, List.map_append]; exact hown, fun b hb hb2 => ?_, h.kept.trans k1 (fun i hi => Or.inr (World.ownsRow.lt h.r13 i (by simpa using hi)).1)⟩
  rcases hat with e | e
  · exact h.ap b hb (by rw [← e]; exact hb2)
  · rw [e] at hb2; cases hb2
    have := (World.ownsRow.lt h.r12 _ hb).2
    simp at this
    omega
end

set_option maxHeartbeats 16000000 in
set_option maxRecDepth 100000 in
theorem walk (w : World) (top other : ByteArray) (ra : Option Addr) (rc : Nat) (rest : List ByteArray) (hL : Lst w (.slice ra rest.length rc) rest) (hS : ∀ x ∈ rest, x.size ≤ 140737488355328) (hN : rest.length ≤ 140737488355328) :
    Calls Tryd.prog 6 #[.string top, .slice ra rest.length rc, .string other] w fun e w' => e = .returned (.bool true) ∧ Kept [] w w' := by
  obtain ⟨i0, hi0, hz00, hz01, hz02⟩ := info_parts info_s
  have AW := Lib.hid (fun w => awake_any w)
  have WG := Lib.hid (fun w h => weight_any w (.slice ra rest.length rc) rest h hS hN)
  have LS := Lib.hid hL
  have HS := Lib.hid hS
  clear hL hS
  by_cases ht : top.size ≤ 268435456
  · have ht' : ¬ (268435456 : Int) < (top.size : Int) := by omega
    by_cases ho : other.size ≤ 268435456
    · have ho' : ¬ (268435456 : Int) < (other.size : Int) := by omega
      have CL1 := Lib.hid (fun w => clean2 w top (by omega))
      obtain ⟨c, hc⟩ : ∃ c, c = clf top := ⟨_, rfl⟩
      have HC := Lib.hid hc
      have hcs : c.size ≤ 268435458 := by have := clf_size top; rw [hc]; omega
      have SP2 := Lib.hid (fun w ho => split2 w c (by omega) ho)
      have UO := Lib.hid (fun w => under_any w c other (by omega) (by omega))
      rw [← hc] at CL1
      clear hc
      go_enter Tryd.func6, Tryd.ntmps6
      go_wp2_with fail
      refine (AW.out w).mono ?_
      rintro e w1 ⟨rfl, k1⟩
      have K1 := Lib.hid k1
      have LS1 := Lib.hid (Lst.kept LS.out k1 (fun _ _ _ _ hm => by simp at hm))
      clear k1 AW
      go_wp2_with fail
      refine (WG.out w1 LS1.out).mono ?_
      rintro e w2 ⟨⟨n, rfl, hn⟩, rfl⟩
      have HN := Lib.hid hn
      clear hn WG
      by_cases hw : n ≤ 268435456
      · have hw' : ¬ (268435456 : Int) < n := by omega
        have HW := Lib.hid (HN.out hw)
        clear hw
        go_wp2_with fail
        refine (CL1.out w2).mono ?_
        rintro e w3 (⟨hok, rfl, k3⟩ | ⟨hok, rfl, k3⟩)
        · have OKC : Hid (okl (dl c) = true) := by rw [HC.out]; exact clf_okl hok
          have UC : Hid (ucl c = true) := (ucl_iff c).2 ⟨OKC.out, by rw [HC.out]; exact clf_clf top⟩
          have K3 : Hid (Kept [] w w3) := K1.out.trans k3 (fun i hi => by simp at hi)
          clear hok k3 K1 CL1
          go_wp2_with fail
          refine (SP2.out w3 OKC.out).mono ?_
          rintro e w4 ⟨pv, rfl, hR, hK⟩
          obtain ⟨pa, pc, rfl⟩ := own_slice hR.out
          obtain ⟨r, hr⟩ : ∃ r, r = rooted (dl c) := ⟨_, rfl⟩
          have HRr := Lib.hid hr
          rw [← hr]
          obtain ⟨w5, hw5⟩ : ∃ w5, w5 = w4.alloc (.cells #[.bool r, .slice pa (pt c).length pc] 28) := ⟨_, rfl⟩
          obtain ⟨Rp, hRp⟩ : ∃ R, R = w4.heap.size := ⟨_, rfl⟩
          have HW5 := Lib.hid (And.intro hw5 hRp)
          have K45 : Hid (Kept [] w4 w5) := by rw [hw5]; exact (Kept.refl _ _).alloc _
          have B5 : Hid (w5.heap[Rp]? = some (.cells #[.bool r, .slice pa (pt c).length pc] 28 (0, 0))) := by rw [hw5, hRp]; exact heap_alloc_new w4 _
          have K5 : Hid (Kept [] w w5) := (K3.out.trans hK.out (fun i hi => by simp at hi)).trans K45.out (fun i hi => by simp at hi)
          have SRC : Hid (RowSrc w5 (.slice pa (pt c).length pc) (pt c).length ((pt c).map sv)) := own_src (Row.kept hR.out K45.out (fun _ _ hm => by simp at hm)) (by simp)
          have hpc := pt_length c
          clear hw5 hRp hr hK hR K3 SP2
          go_wp2_with (at_builtin; refine wpList_append_src (w4.alloc (.cells #[.bool r, .slice pa (pt c).length pc] 28)) rfl (.tmp 55) (.tmp 57) 26 rfl w.heap.size 9 i0 (.string ⟨#[]⟩) 1 16 Tryd.underlying26 hi0 hz00 hz01 hz02 rfl (by decide) (.slice none 0 0) 0 [] rfl (World.ownsRow_nil _ _ _ _) (.slice pa (pt c).length pc) (pt c).length ((pt c).map sv) rfl (by rw [← HW5.out.1]; exact SRC.out) (by simp) (by intro u hu; obtain ⟨y, _, rfl⟩ := List.mem_map.1 hu; rfl) (by unfold maxLen; omega) (by omega) (by rw [← HW5.out.1]; exact K5.out.size) ?_; intro v z1 hown hgrow hat; rw [← HW5.out.1] at hgrow; have PG := Lib.hid ((Kept.refl [] w5).grown hgrow (fun k e => by cases e)); have PA : Hid (Row z1 w.heap.size v (pt c)) := (by show Row _ _ _ _; unfold Row; simpa using hown); obtain ⟨qa, qc, rfl⟩ := own_slice PA.out; clear hown hgrow hat)
          rw [← HW5.out.2]
          have U0 : Hid (UnI w Rp r (.slice pa (pt c).length pc) (.slice qa (pt c).length qc) (.slice none 0 0) (pt c) [] z1) :=
            ⟨(PG.out.block _ (block_lt B5.out) (by simp)).trans B5.out, PA.out, World.ownsRow_nil _ _ _ _, fun b _ h => (by cases h), K5.out.trans PG.out (fun i hi => by simp at hi)⟩
          have hrl : rest.length ≤ 134217728 := by have := wsum_len rest; have := HW.out; omega
          clear HW5 SRC PA PG K45 B5 K5 LS1
          go_loopw [12, 13, 14] (fun v12 v13 iv wr => ∃ (k : Nat) (xs ys : List ByteArray) (a12 a13 : Value), a12 = v12 ∧ a13 = v13 ∧ iv = .int .i64 k ∧ k ≤ rest.length ∧ Hid (xs = pt c ++ (rest.take k).filter chk) ∧ Hid (ys = (rest.take k).filter chk) ∧ Hid (UnI w Rp r (.slice pa (pt c).length pc) a12 a13 xs ys wr)) (fun _ _ iv _ => rest.length - (intOf iv).toNat)
          case atStart => exact ⟨0, pt c, [], _, _, rfl, rfl, rfl, by omega, (by simp : pt c = pt c ++ (rest.take 0).filter chk), (by simp : [] = (rest.take 0).filter chk), U0.out⟩
          case round =>
            obtain ⟨k, xs, ys, a12, a13, e12, e13, rfl, hk, hX, hY, hU⟩ := hrel
            obtain ⟨p12, c12, rfl⟩ := own_slice hU.out.r12
            obtain ⟨p13, c13, rfl⟩ := own_slice hU.out.r13
            subst e12 e13
            have hxl : xs.length ≤ 402653188 := by
              have h1 := List.length_filter_le chk (rest.take k)
              have h2 := List.length_take_le k rest
              rw [hX.out, List.length_append]
              omega
            have hyl : ys.length ≤ 402653188 := by
              have h1 := List.length_filter_le chk (rest.take k)
              have h2 := List.length_take_le k rest
              rw [hY.out]
              omega
            by_cases hlt : k < rest.length
            · have j1 : (k : Int) < (rest.length : Int) := by omega
              have LSr := Lst.kept LS.out hU.out.kept (fun _ _ _ _ hm => by simp at hm)
              obtain ⟨a', c', e', -, hh⟩ := LSr
              cases e'
              rcases hh with e | ⟨b, o, rfl, hb, gg⟩
              · rw [e] at hlt; simp at hlt
              have cx := gg k _ (List.getElem?_eq_getElem hlt)
              have hxs := HS.out _ (List.getElem_mem hlt)
              have TK : rest.take (k + 1) = rest.take k ++ [rest[k]] := List.take_succ_eq_append_getElem hlt
              obtain ⟨x, hx⟩ : ∃ x, x = rest[k] := ⟨_, rfl⟩
              rw [← hx] at cx hxs TK
              have CELL : Hid (∀ W', Kept [] w W' → W'.cell? ⟨b, o + k, none⟩ = some (.string x)) := fun W' kk => by
                obtain ⟨a1, c1, e1, -, h1⟩ := Lst.kept LS.out kk (fun _ _ _ _ hm => by simp at hm)
                cases e1
                rcases h1 with e | ⟨b1, o1, e1, -, g1⟩
                · rw [e] at hlt; simp at hlt
                · cases e1
                  exact g1 k x (by rw [List.getElem?_eq_getElem hlt, hx])
              have TKh := Lib.hid TK
              have CK := Lib.hid (fun w => rcheck_any w x hxs)
              have LTh := Lib.hid hlt
              clear gg hx TK hxs LTh
              go_wp2_with fail
              refine (CK.out wr).mono ?_
              rintro e WW ⟨rfl, kW⟩
              have hU2 := Lib.hid (hU.out.call kW)
              have cx2 := CELL.out WW hU2.out.kept
              clear cx kW
              cases hc : chk x with
              | true =>
                have X2 : Hid (xs ++ [x] = pt c ++ (rest.take (k + 1)).filter chk) := by
                  show _ = _
                  rw [TKh.out, List.filter_append, hX.out]
                  simp [hc]
                have Y2 : Hid (ys ++ [x] = (rest.take (k + 1)).filter chk) := by
                  show _ = _
                  rw [TKh.out, List.filter_append, hY.out]
                  simp [hc]
                have hzW := hU2.out.kept.size
                clear hc CK
                go_wp2_with (first | (at_builtin; refine wpList_append_src (WW.alloc (.cells #[.string x] 9)) rfl (.tmp 72) (.tmp 77) 26 rfl w.heap.size 9 i0 (.string ⟨#[]⟩) 1 16 Tryd.underlying26 hi0 hz00 hz01 hz02 rfl (by decide) (.slice p12 xs.length c12) xs.length (xs.map sv) rfl (hU2.out.r12.alloc _) (.slice (some ⟨WW.heap.size, 0, none⟩) 1 1) 1 [.string x] rfl (Or.inr ⟨_, _, rfl, World.news_of_block (cs := #[.string x]) (by exact heap_alloc_new WW _)⟩) rfl (by intro u hu; simp at hu; subst hu; rfl) (by unfold maxLen; omega) (by omega) (by simp; omega) ?_; intro v z2 hown hgrow hat; have P12 := Lib.hid (hU2.out.push12 hown hgrow hat); obtain ⟨s12, d12, rfl⟩ := own_slice hown; have cx3 := CELL.out z2 P12.out.kept; have hz2 := P12.out.kept.size; clear hown hgrow hat cx2) | (at_builtin; refine wpList_append_src (z2.alloc (.cells #[.string x] 9)) rfl (.tmp 79) (.tmp 84) 26 rfl w.heap.size 9 i0 (.string ⟨#[]⟩) 1 16 Tryd.underlying26 hi0 hz00 hz01 hz02 rfl (by decide) (.slice p13 ys.length c13) ys.length (ys.map sv) rfl (P12.out.r13.alloc _) (.slice (some ⟨z2.heap.size, 0, none⟩) 1 1) 1 [.string x] rfl (Or.inr ⟨_, _, rfl, World.news_of_block (cs := #[.string x]) (by exact heap_alloc_new z2 _)⟩) rfl (by intro u hu; simp at hu; subst hu; rfl) (by unfold maxLen; omega) (by omega) (by simp; omega) ?_; intro v z3 hown hgrow hat; have P13 := Lib.hid (P12.out.push13 hown hgrow hat); obtain ⟨s13, d13, rfl⟩ := own_slice hown; clear hown hgrow hat cx3))
                go_roundw
                case rel => exact ⟨k + 1, xs ++ [x], ys ++ [x], _, _, by simp, by simp, by go_num, by omega, X2.out, Y2.out, P13.out⟩
                case measure => simp [intOf]; omega
              | false =>
                have X2 : Hid (xs = pt c ++ (rest.take (k + 1)).filter chk) := by
                  show _ = _
                  rw [TKh.out, List.filter_append, hX.out]
                  simp [hc]
                have Y2 : Hid (ys = (rest.take (k + 1)).filter chk) := by
                  show _ = _
                  rw [TKh.out, List.filter_append, hY.out]
                  simp [hc]
                clear hc CK
                go_wp2_with fail
                go_roundw
                case rel => exact ⟨k + 1, xs, ys, _, _, rfl, rfl, by go_num, by omega, X2.out, Y2.out, hU2.out⟩
                case measure => simp [intOf]; omega
            · have j1 : ¬ (k : Int) < (rest.length : Int) := by omega
              have ek : rest.take k = rest := List.take_of_length_le (by omega)
              obtain ⟨bs, hbs⟩ : ∃ bs, bs = rest.filter chk := ⟨_, rfl⟩
              have hXX : xs = pt c ++ bs := by rw [hX.out, ek, hbs]
              have hYY : ys = bs := by rw [hY.out, ek, hbs]
              have hbc : ∀ x ∈ bs, chk x = true := fun x hx => by rw [hbs] at hx; exact (List.mem_filter.1 hx).2
              have hws : wsum bs ≤ 268435456 := by rw [hbs]; have := wsum_filter chk rest; have := HW.out; omega
              subst hYY
              have hjs := path_size c ys
              rw [← hXX] at hjs
              have hps := joi_size r xs
              have hj2 : (jin ys).size ≤ 268435456 := by have h1 := jin_size ys; have h2 := wt_wsum ys; omega
              obtain ⟨up1, up2⟩ := under_path (bs := ys) UC.out hbc
              rw [← HRr.out, ← hXX] at up1 up2
              have JN := Lib.hid (join_any wr r _ _ hU.out.r12.lst (by omega) (by omega))
              have U1 := Lib.hid (fun w => under_any w c (joi r xs) (by omega) (by omega))
              rw [up1, up2] at U1
              have JN2 := Lib.hid (fun w2 (k2 : Kept [] wr w2) => join_any w2 false _ ys (hU.out.r13.kept k2 (fun _ _ hm => by simp at hm)).lst (by omega) (by omega))
              have cb : wr.cell? ⟨Rp, 0, none⟩ = some (.bool r) := by rw [cell_of_row wr Rp 0 _ _ (0, 0) hU.out.box]; rfl
              have CL3 := Lib.hid (fun w => clean2 w ((c ++ ⟨#[47]⟩) ++ udo c other) (by
                have := udo_size c other
                rw [ByteArray.size_append, ByteArray.size_append]
                show c.size + 1 + _ ≤ _
                omega))
              have KU := Lib.hid hU.out.kept
              clear ek hbs hbc hws hjs hps hj2 up1 up2 hX hY hU hXX
              go_wp2_with fail
              refine JN.out.mono ?_
              rintro e wa ⟨rfl, ka⟩
              have KA := Lib.hid ka
              clear cb ka JN
              go_wp2_with fail
              refine (U1.out wa).mono ?_
              rintro e wb ⟨rfl, kb⟩
              have KB : Hid (Kept [] wr wb) := KA.out.trans kb (fun i hi => by simp at hi)
              clear kb U1 KA
              go_wp2_with fail
              refine (JN2.out wb KB.out).mono ?_
              rintro e wc ⟨rfl, kc⟩
              have KC : Hid (Kept [] w wc) := (KU.out.trans KB.out (fun i hi => by simp at hi)).trans kc (fun i hi => by simp at hi)
              clear kc JN2 KB KU
              go_wp2_with fail
              refine (UO.out wc).mono ?_
              rintro e wd ⟨rfl, kd⟩
              have KD : Hid (Kept [] w wd) := KC.out.trans kd (fun i hi => by simp at hi)
              clear kd KC
              cases hu : und c other with
              | false =>
                rw [udo_none hu]
                go_wp2_with fail
                go_ret
                exact ⟨rfl, KD.out⟩
              | true =>
                obtain ⟨o1, o2⟩ := under_other hu
                rw [o2] at CL3
                have O1 := Lib.hid o1
                obtain ⟨tt, htt⟩ : ∃ t, t = udo c other := ⟨_, rfl⟩
                have hts : tt.size ≤ 268435458 := by rw [htt]; have := udo_size c other; omega
                rw [← htt] at CL3 O1
                rw [← htt]
                clear hu o1 o2 htt
                go_wp2_with fail
                refine (CL3.out wd).mono ?_
                rintro e we (⟨-, rfl, ke⟩ | ⟨hbad, -⟩)
                rotate_left
                · rw [O1.out] at hbad; cases hbad
                have KE : Hid (Kept [] w we) := KD.out.trans ke (fun i hi => by simp at hi)
                clear ke
                go_wp2_with fail
                go_ret
                exact ⟨rfl, KE.out⟩
        · have K3 : Hid (Kept [] w w3) := K1.out.trans k3 (fun i hi => by simp at hi)
          clear hok k3 K1 CL1
          go_wp2_with fail
          go_ret
          exact ⟨rfl, K3.out⟩
      · have hw' : (268435456 : Int) < n := by omega
        go_wp2_with fail
        go_ret
        exact ⟨rfl, K1.out⟩
    · have ho' : (268435456 : Int) < (other.size : Int) := by omega
      go_enter Tryd.func6, Tryd.ntmps6
      go_wp2_with fail
      refine (AW.out w).mono ?_
      rintro e w1 ⟨rfl, k1⟩
      go_wp2_with fail
      go_ret
      exact ⟨rfl, k1⟩
  · have ht' : (268435456 : Int) < (top.size : Int) := by omega
    go_enter Tryd.func6, Tryd.ntmps6
    go_wp2_with fail
    refine (AW.out w).mono ?_
    rintro e w1 ⟨rfl, k1⟩
    go_wp2_with fail
    go_ret
    exact ⟨rfl, k1⟩
end Go.Proofs.YtjdhgeikbkjnoaaDoor.namesUnder
