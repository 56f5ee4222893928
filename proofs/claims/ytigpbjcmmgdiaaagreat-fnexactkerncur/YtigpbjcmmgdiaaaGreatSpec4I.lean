/-
  What the specification asks of the queues. Condition: the state lies in memory.
-/
import Derived.Test.YtigpbjcmmgdiaaaGreatRd
import Derived.Test.YtigpbjcmmgdiaaaGreatBp
import Derived.Test.YtigpbjcmmgdiaaaGreatRu
namespace Go.Proofs.YtigpbjcmmgdiaaaGreat
open Go.ChangeShapes Go.WideShapes Go.ChangeAt Go.RowKit
set_option linter.unusedVariables false

set_option maxRecDepth 100000 in
set_option maxHeartbeats 8000000 in
theorem l4Queues_any (K : QK) (w : World) (hs : K.Short) (h : KernIn w K) :
    Calls Tryz.prog 54 #[.agg #[.int .i64 K.bits, .int .i64 K.ticks, .slice K.sP K.sl.length K.sc, .slice K.tP K.tl.length K.tc, .slice K.eP K.el.length K.ec, .slice K.nP K.nl.length K.nc, .slice K.fP K.fl.length K.fc, .slice K.r0.P K.r0.l.length K.r0.c, .slice K.r1.P K.r1.l.length K.r1.c, .slice K.r2.P K.r2.l.length K.r2.c, .slice K.r3.P K.r3.l.length K.r3.c, .slice K.r4.P K.r4.l.length K.r4.c, .slice K.r5.P K.r5.l.length K.r5.c, .slice K.r6.P K.r6.l.length K.r6.c, .slice K.r7.P K.r7.l.length K.r7.c]] w fun e w' => e = .returned (.bool (queuesB K)) ∧ Below w.heap.size w w' := by
  have hb0 := KBox.new h 42
  have hlt0 := hs.t
  have hle0 := hs.e
  have hln0 := hs.n
  go_enter Tryz.func54, Tryz.ntmps54
  go_upto_region 1 with fail
  generalize w.alloc (.cells #[.int .i64 K.bits, .int .i64 K.ticks, .slice K.sP K.sl.length K.sc, .slice K.tP K.tl.length K.tc, .slice K.eP K.el.length K.ec, .slice K.nP K.nl.length K.nc, .slice K.fP K.fl.length K.fc, .slice K.r0.P K.r0.l.length K.r0.c, .slice K.r1.P K.r1.l.length K.r1.c, .slice K.r2.P K.r2.l.length K.r2.c, .slice K.r3.P K.r3.l.length K.r3.c, .slice K.r4.P K.r4.l.length K.r4.c, .slice K.r5.P K.r5.l.length K.r5.c, .slice K.r6.P K.r6.l.length K.r6.c, .slice K.r7.P K.r7.l.length K.r7.c] 42) = W0 at hb0 ⊢
  go_wp2
  go_loopw [3, 4] (fun n v W => thInv w K n v W) (fun n v W => K.tl.length - (intOf v).toNat)
  case atStart => exact ⟨0, Nat.zero_le _, rfl, rfl, fun j hj => absurd hj (Nat.not_lt_zero _), hb0⟩
  case round =>
    clear hb0
    obtain ⟨k, hk, rfl, rfl, hno, bb⟩ := hrel
    have HN : Hid _ := hno
    clear hno
    have hcb : (K.tl.take k).countP isRun ≤ 1048576 := by have := countP_bd isRun K.tl k hk; omega
    by_cases hlt : k < K.tl.length
    · as_aux_lemma =>
      have hk1 : (k : Int) < (K.tl.length : Int) := by omega
      have hrow := bb.b.t
      obtain ⟨B, O, hP⟩ := hrow.has hlt
      rw [hP] at hrow
      have hcells := atT hrow hlt
      have hcnt := countP_take isRun K.tl k hlt
      obtain ⟨t, ht⟩ : ∃ t, K.tl[k] = t := ⟨_, rfl⟩
      rw [ht] at hcells hcnt
      have HT : Hid (K.tl[k] = t) := ht
      have HCn : Hid _ := hcnt
      clear ht hcnt hrow
      obtain ⟨c0, c1, c2, c3, c4, c5, c6, c7, c8, c9, c10, c11, c12, c13, c14⟩ := hcells
      have g3 := bb.ct
      rw [hP] at g3
      clear hP
      go_upto_region 6 with fail
      clear g3 c0 c1 c2 c3 c4 c5 c6 c7 c8 c9 c10 c11 c12 c13 c14
      have bb2 := bb.below ((Below.refl _ _).alloc (Nat.le_refl _) (.cells #[.int .i64 t.a0, .int .i64 t.a1, .int .i64 t.a2, .int .i64 t.a3, .int .i64 t.a4, .int .i64 t.a5, .int .i64 t.a6, .int .u32 t.a7, .int .i64 t.a8, .int .u32 t.a9, .int .u32 t.a10, .int .u32 t.a11, .int .u32 t.a12, .int .i64 t.a13, .int .u32 t.a14] 50))
      have tb2 := boxL wr [.int .i64 t.a0, .int .i64 t.a1, .int .i64 t.a2, .int .i64 t.a3, .int .i64 t.a4, .int .i64 t.a5, .int .i64 t.a6, .int .u32 t.a7, .int .i64 t.a8, .int .u32 t.a9, .int .u32 t.a10, .int .u32 t.a11, .int .u32 t.a12, .int .i64 t.a13, .int .u32 t.a14] 50
      have HF0 := fun W (hW : KernIn W K) => l4Fields_any K t W hs hW
      have hlt2 : wr.heap.size < (wr.alloc (.cells #[.int .i64 t.a0, .int .i64 t.a1, .int .i64 t.a2, .int .i64 t.a3, .int .i64 t.a4, .int .i64 t.a5, .int .i64 t.a6, .int .u32 t.a7, .int .i64 t.a8, .int .u32 t.a9, .int .u32 t.a10, .int .u32 t.a11, .int .u32 t.a12, .int .i64 t.a13, .int .u32 t.a14] 50)).heap.size := by simp
      generalize wr.alloc (.cells #[.int .i64 t.a0, .int .i64 t.a1, .int .i64 t.a2, .int .i64 t.a3, .int .i64 t.a4, .int .i64 t.a5, .int .i64 t.a6, .int .u32 t.a7, .int .i64 t.a8, .int .u32 t.a9, .int .u32 t.a10, .int .u32 t.a11, .int .u32 t.a12, .int .i64 t.a13, .int .u32 t.a14] 50) = W2 at bb2 tb2 hlt2 ⊢
      generalize wr.heap.size = tB at tb2 hlt2 ⊢
      obtain ⟨g0, g1, g2, g3, g4, g5, g6, g7, g8, g9, g10, g11, g12, g13, g14⟩ := KBox.facts bb2
      obtain ⟨h0, h1, h2, h3, h4, h5, h6, h7, h8, h9, h10, h11, h12, h13, h14⟩ := tfacts tb2
      cases hf : fieldsB K t
      · rw [hf] at HF0
        have HF : Hid _ := HF0
        have HX : Hid (thQB K t = false) := by unfold Hid thQB; rw [hf]; rfl
        have HQ : Hid (queuesB K = false) := by unfold Hid queuesB; rw [all_no hlt (by rw [HT.out]; exact HX.out)]; rfl
        clear hf HF0
        go_wp2_with (go_at_call 88; refine Calls.mono (HF.out _ bb2.b) ?_; rintro e w3 ⟨rfl, hb3⟩)
        go_ret
        exact ⟨ret_bool HQ.out.symm, (bb2.below hb3).bw⟩
      · rw [hf] at HF0
        have HF : Hid _ := HF0
        obtain ⟨hp0, hp7⟩ := prio_of hf
        have HFB : Hid _ := hf
        clear HF0 hf
        go_upto_region 8 with (go_at_call 88; refine Calls.mono (HF.out _ bb2.b) ?_; rintro e w3 ⟨rfl, hb3⟩)
        have bb3 := bb2.below hb3
        have tb3 := tb2.below hb3
        clear g0 g1 g2 g3 g4 g5 g6 g7 g8 g9 g10 g11 g12 g13 g14 h0 h1 h2 h3 h4 h5 h6 h7 h8 h9 h10 h11 h12 h13 h14 bb2 tb2 hb3 HF hlt2
        obtain ⟨h0, h1, h2, h3, h4, h5, h6, h7, h8, h9, h10, h11, h12, h13, h14⟩ := tfacts tb3
        cases hr : (t.a1 == 1)
        · have hr1 : ¬ t.a1 = 1 := by simpa using hr
          have HX : Hid (thQB K t = true) := by unfold Hid thQB isRun; rw [HFB.out, hr]; rfl
          have HC2 : Hid ((K.tl.take (k + 1)).countP isRun = (K.tl.take k).countP isRun) := by unfold Hid; rw [HCn.out]; simp [isRun, hr]
          go_wp2
          go_roundw
          case rel => exact ⟨k + 1, by omega, by rw [HC2.out], by go_num, all_next hlt HN.out (by rw [HT.out]; exact HX.out), bb3⟩
          case measure => simp [intOf]; omega
        · have hr1 : t.a1 = 1 := by simpa using hr
          have HC2 : Hid ((K.tl.take (k + 1)).countP isRun = (K.tl.take k).countP isRun + 1) := by unfold Hid; rw [HCn.out]; simp [isRun, hr]
          obtain ⟨m, hm⟩ : ∃ m : Nat, t.a2 = (m : Int) := ⟨t.a2.toNat, by omega⟩
          have hm7 : m ≤ 7 := by omega
          have hm8 : (m : Int) < 8 := by omega
          have hw3 : IntKind.i64.wrap ((((K.tl.take k).countP isRun : Nat) : Int) + 1) = (((K.tl.take k).countP isRun : Nat) : Int) + 1 := by rw [IntKind.wrap_i64]; omega
          have hrc := ready_cell bb3 m hm7
          have hin := bb3.b.r _ (readyQ_mem K m)
          have hrl := ready_len hs m
          have HX : Hid (thQB K t = ((((readyQ K m).l.countP (fun y => y == t.a0) : Nat) : Int) == 1)) := by unfold Hid thQB isRun; rw [HFB.out, hr, hm]; simp
          rw [hm] at h2
          have HL0 := fun W hW => l4Has_bel (readyQ K m).P (readyQ K m).c (readyQ K m).l t.a0 W hrl hW
          generalize (((readyQ K m).l.countP (fun y => y == t.a0) : Nat) : Int) = cn at HL0 HX
          have HL : Hid _ := HL0
          clear HL0 hm
          obtain ⟨rc, hrc2⟩ : ∃ rc, (((K.tl.take k).countP isRun : Nat) : Int) = rc := ⟨_, rfl⟩
          rw [hrc2] at hw3 ⊢
          have HRc : Hid _ := hrc2
          clear hrc2
          have q0 := cell_regrown h0
          have q2 := cell_regrown h2
          have qc := cell_regrown hrc
          have hz2 : (0 : Int) ≤ (m : Int) := by omega
          go_upto_region 10 with fail
          refine wq_region (by kernel_rfl) (by kernel_rfl) ?_
          repeat (first | (refine wq_step (fun K hK => ?_); go_simp; first | (refine hK _ ?_; clear hK K) | (apply Exists.intro; refine ⟨fun _ => ?_, hK _ ?_⟩; (first | (go_at_call 89; exact Calls.regrown_of (HL.out _ (hin.below (below_regrown _ _ _))))); clear hK K)))
          refine wq_nil ?_
          intro _ hw'
          obtain ⟨⟨dq, osq⟩, hw''⟩ := hw'
          subst hw''
          have bb4 := bb3.below (below_regrown _ dq osq)
          cases hcn : (cn == 1)
          · have hcn2 : (cn != 1) = true := by rw [bne, hcn]; rfl
            have HQ : Hid (queuesB K = false) := by unfold Hid queuesB; rw [all_no hlt (by rw [HT.out, HX.out, hcn])]; rfl
            go_wp2
            go_ret
            exact ⟨ret_bool HQ.out.symm, bb4.bw⟩
          · have hcn2 : (cn != 1) = false := by rw [bne, hcn]; rfl
            have HY : Hid (thQB K K.tl[k] = true) := by unfold Hid; rw [HT.out, HX.out, hcn]
            have HR : Hid ((((K.tl.take (k + 1)).countP isRun : Nat) : Int) = rc + 1) := by unfold Hid; rw [HC2.out, ← HRc.out]; push_cast; rfl
            go_wp2
            go_roundw
            case rel => exact ⟨k + 1, by omega, by rw [HR.out], by go_num, all_next hlt HN.out HY.out, bb4⟩
            case measure => simp [intOf]; omega
    · have hk1 : ¬ (k : Int) < (K.tl.length : Int) := by omega
      have g3 := bb.ct
      have hcnt : (K.tl.take k).countP isRun = K.tl.countP isRun := countP_end isRun K.tl k (by omega)
      rw [hcnt] at hcb ⊢
      obtain ⟨R, hR⟩ : ∃ R : Int, ((K.tl.countP isRun : Nat) : Int) = R := ⟨_, rfl⟩
      have HQ : Hid (queuesB K = (K.el.all (endQB K) && (K.nl.all (noteQB K) && (R - readyN K 8 == 0)))) := by
        unfold Hid queuesB
        rw [all_yes (fun j hj => HN.out j (by omega) hj), hR, Bool.true_and]
      have hR0 : 0 ≤ R ∧ R ≤ 1048576 := by omega
      rw [hR]
      clear hcnt hR hcb HN
      go_wp2
      go_loopw [3, 6] (fun n v W => sumInv w K R n v W) (fun n v W => 8 - (intOf v).toNat)
      case atStart => exact ⟨0, by omega, by simp [readyN], rfl, bb⟩
      case round =>
        clear bb
        obtain ⟨p, hp, rfl, rfl, bb⟩ := hrel
        have hbd := readyN_bd hs p
        by_cases hlt : p < 8
        · have hp8 : (p : Int) < 8 := by omega
          have hrc := ready_cell bb p (by omega)
          have hrl := ready_len hs p
          have hw3 : IntKind.i64.wrap (R - readyN K p - ((readyQ K p).l.length : Int)) = R - readyN K (p + 1) := by rw [readyN, IntKind.wrap_i64]; omega
          go_wp2
          go_roundw
          case rel => exact ⟨p + 1, by omega, rfl, by go_num, bb⟩
          case measure => simp [intOf]; omega
        · have hp8 : ¬ (p : Int) < 8 := by omega
          have HP8 : Hid (p = 8) := by unfold Hid; omega
          obtain ⟨S, hS⟩ : ∃ S, R - readyN K p = S := ⟨_, rfl⟩
          rw [hS]
          have HQ2 : Hid (queuesB K = (K.el.all (endQB K) && (K.nl.all (noteQB K) && (S == 0)))) := by unfold Hid; rw [HQ.out, ← hS, HP8.out]
          clear hS hbd HQ hp hlt
          go_wp2
          go_loopw [7] (fun v W => endInvQ w K v W) (fun v W => K.el.length - (intOf v).toNat)
          case atStart => exact ⟨0, Nat.zero_le _, rfl, fun j hj => absurd hj (Nat.not_lt_zero _), bb⟩
          case round =>
            clear bb
            obtain ⟨k, hk, rfl, hno, bb⟩ := hrel
            have HN : Hid _ := hno
            clear hno
            by_cases hlt : k < K.el.length
            · as_aux_lemma =>
              have hk1 : (k : Int) < (K.el.length : Int) := by omega
              have hrow := bb.b.e
              obtain ⟨B, O, hP⟩ := hrow.has hlt
              rw [hP] at hrow
              have c0 := hrow.at hlt 0 _ rfl
              have c1 := hrow.at hlt 1 _ rfl
              have c2 := hrow.at hlt 2 _ rfl
              simp only [fE, Nat.add_zero] at c0 c1 c2
              have hein := bb.b.ei K.el[k] (List.getElem_mem hlt)
              have hel := hs.ei K.el[k] (List.getElem_mem hlt)
              obtain ⟨e, he⟩ : ∃ e, K.el[k] = e := ⟨_, rfl⟩
              rw [he] at c0 c1 c2 hein hel
              have HE : Hid (K.el[k] = e) := he
              have g4 := bb.ce
              rw [hP] at g4
              clear hP hrow he
              go_upto_region 20 with fail
              clear g4 c0 c1 c2
              have bb2 := bb.below ((Below.refl _ _).alloc (Nat.le_refl _) (.cells #[.int .i64 e.ad, .int .i64 e.kd, .slice e.P e.l.length e.c] 114))
              have hein2 := hein.below ((Below.refl _ _).alloc (Nat.le_refl _) (.cells #[.int .i64 e.ad, .int .i64 e.kd, .slice e.P e.l.length e.c] 114))
              have eb := boxL wr [.int .i64 e.ad, .int .i64 e.kd, .slice e.P e.l.length e.c] 114
              generalize wr.alloc (.cells #[.int .i64 e.ad, .int .i64 e.kd, .slice e.P e.l.length e.c] 114) = W2 at bb2 eb hein2 ⊢
              generalize wr.heap.size = tB at eb ⊢
              clear bb hein
              obtain ⟨g0, g1, g2, g3, g4, g5, g6, g7, g8, g9, g10, g11, g12, g13, g14⟩ := KBox.facts bb2
              have h0 := atV eb 0 _ rfl
              have h1 := atV eb 1 _ rfl
              have h2 := atV eb 2 _ rfl
              have HNO : Hid (endQB K e = false → queuesB K = false) := fun h => by rw [HQ2.out, all_no hlt (by rw [HE.out]; exact h)]; rfl
              cases d1 : decide (e.kd < 0)
              · cases d2 : decide (2 < e.kd)
                · have hd1 : ¬ e.kd < 0 := by simpa using d1
                  have hd2 : ¬ 2 < e.kd := by simpa using d2
                  have hwk : IntKind.i64.wrap (e.kd + 1) = e.kd + 1 := by rw [IntKind.wrap_i64]; omega
                  have HW0 := fun W hW hL => l4Wait_any K e.P e.c e.l (e.kd + 1) e.ad W hs hW hel hL
                  have HXE : Hid (endQB K e = (((e.kd == 0) == ((e.l.length : Int) == 0)) && e.l.all (thWaitB K.tl (e.kd + 1) e.ad))) := by unfold Hid endQB; rw [d1, d2]; rfl
                  generalize e.l.all (thWaitB K.tl (e.kd + 1) e.ad) = aw at HW0 HXE
                  have HW : Hid _ := HW0
                  clear HW0
                  cases z1 : (e.kd == 0) <;> cases z2 : ((e.l.length : Int) == 0) <;> cases aw
                  all_goals rw [z1, z2] at HXE
                  all_goals first
                    | (go_wp2_with (go_at_call 90; refine Calls.mono (HW.out _ bb2.b hein2) ?_; rintro e w3 ⟨rfl, hb3⟩; have bb3 := bb2.below hb3)
                       first
                       | (go_ret; exact ⟨ret_bool (HNO.out HXE.out).symm, by first | exact bb3.bw | exact bb2.bw⟩)
                       | (go_roundw
                          case rel => exact ⟨k + 1, by omega, by go_num, all_next hlt HN.out (by rw [HE.out]; exact HXE.out), bb3⟩
                          case measure => simp [intOf]; omega))
                · have HXE : Hid (endQB K e = false) := by unfold Hid endQB; rw [d1, d2]; rfl
                  go_wp2
                  go_ret
                  exact ⟨ret_bool (HNO.out HXE.out).symm, bb2.bw⟩
              · have HXE : Hid (endQB K e = false) := by unfold Hid endQB; rw [d1]; rfl
                go_wp2
                go_ret
                exact ⟨ret_bool (HNO.out HXE.out).symm, bb2.bw⟩
            · have hk1 : ¬ (k : Int) < (K.el.length : Int) := by omega
              have g4 := bb.ce
              have HQ3 : Hid (queuesB K = (K.nl.all (noteQB K) && (S == 0))) := by unfold Hid; rw [HQ2.out, all_yes (fun j hj => HN.out j (by omega) hj), Bool.true_and]
              clear HQ2 HN hlt hk
              go_wp2
              go_loopw [9] (fun v W => noteInvQ w K v W) (fun v W => K.nl.length - (intOf v).toNat)
              case atStart => exact ⟨0, Nat.zero_le _, rfl, fun j hj => absurd hj (Nat.not_lt_zero _), bb⟩
              case round =>
                clear bb
                obtain ⟨k, hk, rfl, hno, bb⟩ := hrel
                have HN : Hid _ := hno
                clear hno
                by_cases hlt : k < K.nl.length
                · as_aux_lemma =>
                  have hk1 : (k : Int) < (K.nl.length : Int) := by omega
                  have hrow := bb.b.n
                  obtain ⟨B, O, hP⟩ := hrow.has hlt
                  rw [hP] at hrow
                  have c0 := hrow.at hlt 0 _ rfl
                  have c1 := hrow.at hlt 1 _ rfl
                  have c2 := hrow.at hlt 2 _ rfl
                  have c3 := hrow.at hlt 3 _ rfl
                  simp only [fN, Nat.add_zero] at c0 c1 c2 c3
                  have hein := bb.b.ni K.nl[k] (List.getElem_mem hlt)
                  have hel := hs.ni K.nl[k] (List.getElem_mem hlt)
                  obtain ⟨n, he⟩ : ∃ e, K.nl[k] = e := ⟨_, rfl⟩
                  rw [he] at c0 c1 c2 c3 hein hel
                  have HE : Hid (K.nl[k] = n) := he
                  have g5 := bb.cn
                  rw [hP] at g5
                  clear hP hrow he
                  go_upto_region 26 with fail
                  clear g5 c0 c1 c2 c3
                  have bb2 := bb.below ((Below.refl _ _).alloc (Nat.le_refl _) (.cells #[.int .i64 n.ad, .bool n.ac, .int .i64 n.wd, .slice n.P n.l.length n.c] 116))
                  have hein2 := hein.below ((Below.refl _ _).alloc (Nat.le_refl _) (.cells #[.int .i64 n.ad, .bool n.ac, .int .i64 n.wd, .slice n.P n.l.length n.c] 116))
                  have eb := boxL wr [.int .i64 n.ad, .bool n.ac, .int .i64 n.wd, .slice n.P n.l.length n.c] 116
                  generalize wr.alloc (.cells #[.int .i64 n.ad, .bool n.ac, .int .i64 n.wd, .slice n.P n.l.length n.c] 116) = W2 at bb2 eb hein2 ⊢
                  generalize wr.heap.size = tB at eb ⊢
                  clear bb hein
                  obtain ⟨g0, g1, g2, g3, g4, g5, g6, g7, g8, g9, g10, g11, g12, g13, g14⟩ := KBox.facts bb2
                  have h0 := atV eb 0 _ rfl
                  have h1 := atV eb 1 _ rfl
                  have h2 := atV eb 2 _ rfl
                  have h3 := atV eb 3 _ rfl
                  have HNO : Hid (noteQB K n = false → queuesB K = false) := fun h => by rw [HQ3.out, all_no hlt (by rw [HE.out]; exact h)]; rfl
                  have HW0 := fun W hW hL => l4Wait_any K n.P n.c n.l 5 n.ad W hs hW hel hL
                  have HXE : Hid (noteQB K n = (!decide (n.wd < 0) && !decide (65535 < n.wd) && !(n.ac && decide (0 < (n.l.length : Int))) && !(!n.ac && n.wd != 0) && n.l.all (thWaitB K.tl 5 n.ad))) := rfl
                  generalize n.l.all (thWaitB K.tl 5 n.ad) = aw at HW0 HXE
                  have HW : Hid _ := HW0
                  clear HW0
                  have dn : decide (0 < (n.l.length : Int)) = decide (0 < n.l.length) := by simp
                  cases d1 : decide (n.wd < 0) <;> cases d2 : decide (65535 < n.wd) <;> cases d3 : n.ac <;> cases d4 : decide (0 < (n.l.length : Int)) <;> cases d5 : (n.wd != 0) <;> cases aw
                  all_goals rw [d4] at dn
                  all_goals have d4n := dn.symm
                  all_goals clear dn
                  all_goals rw [d1, d2, d3, d4, d5] at HXE
                  all_goals rw [d3] at h1
                  all_goals first
                    | (go_wp2_with (go_at_call 90; refine Calls.mono (HW.out _ bb2.b hein2) ?_; rintro e w3 ⟨rfl, hb3⟩; have bb3 := bb2.below hb3)
                       first
                       | (go_ret; exact ⟨ret_bool (HNO.out HXE.out).symm, by first | exact bb3.bw | exact bb2.bw⟩)
                       | (go_roundw
                          case rel => exact ⟨k + 1, by omega, by go_num, all_next hlt HN.out (by rw [HE.out]; exact HXE.out), bb3⟩
                          case measure => simp [intOf]; omega))
                · have hk1 : ¬ (k : Int) < (K.nl.length : Int) := by omega
                  have g5 := bb.cn
                  have HQ4 : Hid (queuesB K = (S == 0)) := by unfold Hid; rw [HQ3.out, all_yes (fun j hj => HN.out j (by omega) hj), Bool.true_and]
                  clear HQ3 HN
                  go_wp2
                  go_ret
                  exact ⟨ret_bool (by rw [HQ4.out]), bb.bw⟩

end Go.Proofs.YtigpbjcmmgdiaaaGreat
