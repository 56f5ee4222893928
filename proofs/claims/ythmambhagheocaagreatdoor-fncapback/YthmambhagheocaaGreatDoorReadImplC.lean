/-
  CapRead of the program, at every text: what the plain reading says.
-/
import Derived.Test.YthmambhagheocaaGreatDoorReadImplB
import Derived.Test.YthmambhagheocaaGreatDoorReadSpecE
namespace Go.Proofs.YthmambhagheocaaGreatDoor
open Go.ChangeShapes Go.WideShapes Go.ChangeAt Go.RowKit
set_option linter.unusedVariables false

theorem read_is {s f0 wd : List UInt8} {F : List (List UInt8)} {o : Bool} (hc : cutL s = f0 :: F) (hs : cutStar f0 = (wd, o)) : readI s = if namedI wd = 0 then none else readK (namedI wd) o F := by
  unfold readI; rw [hc]; simp only [hs]
theorem named_mem (w : List UInt8) (h : namedI w ≠ 0) : 1 ≤ namedI w ∧ namedI w ≤ 7 := by
  have := (named_some (l := [1, 2, 3, 4, 5, 6, 7]) h).2
  change namedI w ∈ [1, 2, 3, 4, 5, 6, 7] at this
  simp only [List.mem_cons, List.not_mem_nil, or_false] at this
  omega
theorem rights_mem {t : List UInt8} : ∀ {l : List Int} {r : Int}, rightsFrom t l = some r → r ∈ l
  | [], _, h => by cases h
  | x :: l, r, h => by
    rw [rightsFrom] at h
    split at h
    · cases h; exact List.mem_cons_self ..
    · exact List.mem_cons_of_mem _ (rights_mem h)
theorem setPart_r {c : CQ} {p n : Int} {t : List UInt8} (h : partI p t = some n) (hr : 0 ≤ c.r ∧ c.r ≤ 7) (h0 : 0 ≤ p) (h6 : p ≤ 6) : 0 ≤ (setPart c p n).r ∧ (setPart c p n).r ≤ 7 := by
  have hp : p = 0 ∨ p = 1 ∨ p = 2 ∨ p = 3 ∨ p = 4 ∨ p = 5 ∨ p = 6 := by omega
  rcases hp with e | e | e | e | e | e | e <;> subst e
  · exact hr
  · exact hr
  · have h2 : rightsI t = some n := by rw [partI, if_pos rfl] at h; exact h
    have := rights_mem (l := [0, 1, 2, 3, 4, 5, 6, 7]) h2
    simp only [List.mem_cons, List.not_mem_nil, or_false] at this
    show 0 ≤ n ∧ n ≤ 7
    omega
  · exact hr
  · exact hr
  · exact hr
  · exact hr
theorem partsI_mem {k p : Int} (h : p ∈ partsI k) : 0 ≤ p ∧ p ≤ 6 := by
  unfold partsI at h
  repeat' split at h
  all_goals (simp only [List.mem_cons, List.not_mem_nil, or_false] at h; omega)
theorem readParts_none {c : CQ} {p : Int} {ps : List Int} {t : List UInt8} {ts : List (List UInt8)} (h : partI p t = none) : readParts c (p :: ps) (t :: ts) = none := by
  rw [readParts, h]
theorem readParts_some {c : CQ} {p n : Int} {ps : List Int} {t : List UInt8} {ts : List (List UInt8)} (h : partI p t = some n) : readParts c (p :: ps) (t :: ts) = readParts (setPart c p n) ps ts := by
  rw [readParts, h]
theorem drop_get {α : Type} {l : List α} {j : Nat} (h : j < l.length) : l.drop j = l[j] :: l.drop (j + 1) := List.drop_eq_getElem_cons h

theorem far9 {W : World} {b m : Nat} {T : TypeId} {L : List Value} (h : Bx W b T L) (hne : b ≠ m) (v0 v1 v2 v3 v4 v5 v6 v7 v8 : Value) : Bx (((((((((W.setCell ⟨m, 0, none⟩ v0).setCell ⟨m, 1, none⟩ v1).setCell ⟨m, 2, none⟩ v2).setCell ⟨m, 3, none⟩ v3).setCell ⟨m, 4, none⟩ v4).setCell ⟨m, 5, none⟩ v5).setCell ⟨m, 6, none⟩ v6).setCell ⟨m, 7, none⟩ v7).setCell ⟨m, 8, none⟩ v8) b T L := (((((((((h.far (c := m) (k := 0) v0 hne).far (c := m) (k := 1) v1 hne).far (c := m) (k := 2) v2 hne).far (c := m) (k := 3) v3 hne).far (c := m) (k := 4) v4 hne).far (c := m) (k := 5) v5 hne).far (c := m) (k := 6) v6 hne).far (c := m) (k := 7) v7 hne).far (c := m) (k := 8) v8 hne)
theorem set9 {W : World} {m : Nat} {T : TypeId} {a0 a1 a2 a3 a4 a5 a6 a7 a8 : Value} (h : Bx W m T [a0, a1, a2, a3, a4, a5, a6, a7, a8]) (v0 v1 v2 v3 v4 v5 v6 v7 v8 : Value) : Bx (((((((((W.setCell ⟨m, 0, none⟩ v0).setCell ⟨m, 1, none⟩ v1).setCell ⟨m, 2, none⟩ v2).setCell ⟨m, 3, none⟩ v3).setCell ⟨m, 4, none⟩ v4).setCell ⟨m, 5, none⟩ v5).setCell ⟨m, 6, none⟩ v6).setCell ⟨m, 7, none⟩ v7).setCell ⟨m, 8, none⟩ v8) m T [v0, v1, v2, v3, v4, v5, v6, v7, v8] := by
  have h9 := (((((((((h.set 0 v0).set 1 v1).set 2 v2).set 3 v3).set 4 v4).set 5 v5).set 6 v6).set 7 v7).set 8 v8)
  simpa only [List.set] using h9
/-- Between two rounds. -/
structure RdI (w : World) (W : World) (fB pB cB : Nat) (F : List (List UInt8)) (f0 : List UInt8) (ps : List Int) (c0 c : CQ) (j : Nat) : Prop where
  rr : Bx W w.heap.size 24 [.int .i64 0, .int .i64 0, .int .i64 0, .int .i64 0, .int .i64 0, .int .i64 0, .int .i64 0, .int .i64 0, .bool false]
  rf : Bx W fB 9 ((f0 :: F).map strV)
  rp : Bx W pB 53 (ps.map (Value.int .i64))
  rc : Bx W cB 24 [.int .i64 c.k, .int .i64 c.a, .int .i64 c.b, .int .i64 c.r, .int .i64 c.d, .int .i64 c.g, .int .i64 c.q, .int .i64 c.f, .bool c.o]
  bw : Below w.heap.size w W
  hj : j ≤ ps.length
  ho : w.heap.size + 1 < cB
  hr : 0 ≤ c.r ∧ c.r ≤ 7
  go : readParts c0 ps F = readParts c (ps.drop j) (F.drop j)

/-- Behind one part: what it left, at a block of its own. -/
structure RdC (w : World) (W : World) (fB pB cB : Nat) (F : List (List UInt8)) (f0 : List UInt8) (ps : List Int) (c c' : CQ) (b : Nat) : Prop where
  rr : Bx W w.heap.size 24 [.int .i64 0, .int .i64 0, .int .i64 0, .int .i64 0, .int .i64 0, .int .i64 0, .int .i64 0, .int .i64 0, .bool false]
  rf : Bx W fB 9 ((f0 :: F).map strV)
  rp : Bx W pB 53 (ps.map (Value.int .i64))
  rc : Bx W cB 24 [.int .i64 c.k, .int .i64 c.a, .int .i64 c.b, .int .i64 c.r, .int .i64 c.d, .int .i64 c.g, .int .i64 c.q, .int .i64 c.f, .bool c.o]
  rx : Bx W b 24 [.int .i64 c'.k, .int .i64 c'.a, .int .i64 c'.b, .int .i64 c'.r, .int .i64 c'.d, .int .i64 c'.g, .int .i64 c'.q, .int .i64 c'.f, .bool c'.o]
  bw : Below w.heap.size w W
  hb : b ≠ cB

set_option maxRecDepth 100000 in
set_option maxHeartbeats 8000000 in
theorem capReadI_any (s : List UInt8) (w : World) (hl : s.length ≤ 1048576) (hL : Laid w) :
    Calls Tryz.prog 7 #[.string ⟨s.toArray⟩] w fun e w' => e = .returned (rdV (readI s)) ∧ Below w.heap.size w w' := by
  obtain ⟨f0, F, hcut⟩ : ∃ f0 F, cutL s = f0 :: F := by
    cases e : cutL s with
    | nil => exact absurd e (cutL_ne s)
    | cons a b => exact ⟨a, b, rfl⟩
  obtain ⟨wd, o, hst⟩ : ∃ wd o, cutStar f0 = (wd, o) := ⟨_, _, rfl⟩
  have HR : Hid _ := read_is hcut hst
  have hFl : F.length ≤ 1048576 := by have := cutL_length s; rw [hcut] at this; simp at this; omega
  have hpl : ∀ t ∈ f0 :: F, t.length ≤ 1048576 := fun t ht => by have := cut_len s t (by rw [hcut]; exact ht); omega
  have r0 := Bx.new w 24 [.int .i64 0, .int .i64 0, .int .i64 0, .int .i64 0, .int .i64 0, .int .i64 0, .int .i64 0, .int .i64 0, .bool false]
  have b0 : Below w.heap.size w (w.alloc (.cells #[.int .i64 0, .int .i64 0, .int .i64 0, .int .i64 0, .int .i64 0, .int .i64 0, .int .i64 0, .int .i64 0, .bool false] 24)) := (Below.refl _ _).alloc (Nat.le_refl _) _
  have HS : Hid _ := split_any s (w.alloc (.cells #[.int .i64 0, .int .i64 0, .int .i64 0, .int .i64 0, .int .i64 0, .int .i64 0, .int .i64 0, .int .i64 0, .bool false] 24)) (by omega) (hL.below b0)
  have HW := fun W (h : Laid W) => star_any f0 W (by have := hpl f0 (List.mem_cons_self ..); omega)
  rw [hcut] at HS
  rw [hst] at HW
  obtain ⟨n, hn⟩ : ∃ n, (f0 :: F).length = n := ⟨_, rfl⟩
  rw [hn] at HS
  have hn1 : n ≤ F.length + 1 := by rw [← hn]; simp
  have hn2 : F.length + 1 ≤ n := by rw [← hn]; simp
  have hn0 : (0 : Int) < (n : Int) := by omega
  have HWd : Hid _ := HW
  clear HW hst hcut hn
  go_enter Tryz.func7, Tryz.ntmps7
  go_upto_region 2 with (go_at_call 18; refine Calls.mono HS.out ?_; rintro e w1 ⟨rfl, hw⟩; have fx : Bx w1 (w.heap.size + 1) 9 ((f0 :: F).map strV) := (by rw [hw]; exact Bx.newAt _ _ _ (by simp)); have r1 : Bx w1 w.heap.size 24 [.int .i64 0, .int .i64 0, .int .i64 0, .int .i64 0, .int .i64 0, .int .i64 0, .int .i64 0, .int .i64 0, .bool false] := (by rw [hw]; exact r0.alloc _); have b1 : Below w.heap.size w w1 := (by rw [hw]; exact b0.alloc (by simp) _); clear hw)
  clear HS r0 b0
  have L1 := hL.below b1
  have k0 := fx.cell 0 (.string ⟨f0.toArray⟩) rfl
  go_upto_region 3 with (go_at_call 19; refine Calls.mono (HWd.out _ L1) ?_; rintro e w2 ⟨rfl, hw⟩; have hw := hw.symm; subst hw)
  clear HWd k0
  have HNd : Hid _ := fun W => named_any wd W
  have hmem := named_mem wd
  generalize namedI wd = kk at HNd HR hmem
  go_upto_region 4 with (go_at_call 20; refine Calls.mono (HNd.out _) ?_; rintro e w2 ⟨rfl, hb2⟩; simp only [strV])
  clear HNd
  have r2 := (r1.below hb2).alloc (.cells #[.int .i64 kk, .int .i64 0, .int .i64 0, .int .i64 0, .int .i64 0, .int .i64 0, .int .i64 0, .int .i64 0, .bool o] 24)
  have f2 := (fx.below hb2).alloc (.cells #[.int .i64 kk, .int .i64 0, .int .i64 0, .int .i64 0, .int .i64 0, .int .i64 0, .int .i64 0, .int .i64 0, .bool o] 24)
  have b2 := (b1.trans (hb2.mono b1.size)).alloc (b1.trans (hb2.mono b1.size)).size (.cells #[.int .i64 kk, .int .i64 0, .int .i64 0, .int .i64 0, .int .i64 0, .int .i64 0, .int .i64 0, .int .i64 0, .bool o] 24)
  have x2 := Bx.newAt w2 24 [.int .i64 kk, .int .i64 0, .int .i64 0, .int .i64 0, .int .i64 0, .int .i64 0, .int .i64 0, .int .i64 0, .bool o] rfl
  have hcB : w.heap.size + 1 < w2.heap.size := (fx.below hb2).lt
  generalize w2.heap.size = cB at *
  generalize w2.alloc (.cells #[.int .i64 kk, .int .i64 0, .int .i64 0, .int .i64 0, .int .i64 0, .int .i64 0, .int .i64 0, .int .i64 0, .bool o] 24) = W at *
  clear r1 fx b1 L1 hb2
  have g0 := x2.cell 0 _ rfl
  by_cases hk : kk = 0
  · have HK : Hid (readI s = none) := by unfold Hid; rw [HR.out, if_pos hk]
    subst hk
    clear HR hmem
    have q0 := r2.cell 0 _ rfl; have q1 := r2.cell 1 _ rfl; have q2 := r2.cell 2 _ rfl; have q3 := r2.cell 3 _ rfl; have q4 := r2.cell 4 _ rfl; have q5 := r2.cell 5 _ rfl; have q6 := r2.cell 6 _ rfl; have q7 := r2.cell 7 _ rfl; have q8 := r2.cell 8 _ rfl; have qz := r2.frozen
    go_wp2
    refine bodyPost_ret (v := rdV none) (by simp [results, Tryz.results7, go_sem, rdV, CQ.zero, *]) rfl ⟨by rw [HK.out], below_set9 b2 _ _ _ _ _ _ _ _ _⟩
  · obtain ⟨h1, h7⟩ := hmem hk
    have HR2 : Hid (readI s = readK kk o F) := by unfold Hid; rw [HR.out, if_neg hk]
    have hkb : (kk == 0) = false := by simpa using hk
    clear HR hmem
    have HPt : Hid _ := fun W => partsOf_any kk W h1 h7
    have hpm : ∀ p ∈ partsI kk, 0 ≤ p ∧ p ≤ 6 := fun p hp => partsI_mem hp
    have hml : (partsI kk).length ≤ 4 := by unfold partsI; repeat' split
                                            all_goals decide
    unfold readK at HR2
    generalize partsI kk = ps at HPt hpm hml HR2
    obtain ⟨m, hm⟩ : ∃ m, ps.length = m := ⟨_, rfl⟩
    rw [hm] at HPt hml HR2
    have hw1 : IntKind.i64.wrap ((m : Int) + 1) = (m : Int) + 1 := by rw [IntKind.wrap_i64]; omega
    go_upto_region 7 with (first
      | (go_at_call 17; refine (kindOf_any _ _).mono ?_; rintro e w3 ⟨rfl, hw⟩; have hw := hw.symm; subst hw)
      | (go_at_call 21; refine Calls.mono (HPt.out _) ?_; rintro e w3 ⟨rfl, hw⟩; have p3 : Bx w3 W.heap.size 53 (ps.map (Value.int .i64)) := (by rw [hw]; exact Bx.newAt _ _ _ rfl); have r3 : Bx w3 w.heap.size 24 [.int .i64 0, .int .i64 0, .int .i64 0, .int .i64 0, .int .i64 0, .int .i64 0, .int .i64 0, .int .i64 0, .bool false] := (by rw [hw]; exact r2.alloc _); have f3 : Bx w3 (w.heap.size + 1) 9 ((f0 :: F).map strV) := (by rw [hw]; exact f2.alloc _); have x3 : Bx w3 cB 24 [.int .i64 kk, .int .i64 0, .int .i64 0, .int .i64 0, .int .i64 0, .int .i64 0, .int .i64 0, .int .i64 0, .bool o] := (by rw [hw]; exact x2.alloc _); have b3 : Below w.heap.size w w3 := (by rw [hw]; exact b2.alloc b2.size _); clear hw))
    have hpB : cB < W.heap.size := x2.lt
    clear r2 f2 x2 b2 HPt g0
    generalize W.heap.size = pB at *
    by_cases hfl : F.length = m
    · have hq : ((n : Int) != (m : Int) + 1) = false := by simp; omega
      have hq2 : (n : Int) = (m : Int) + 1 := by omega
      rw [if_pos hfl] at HR2
      have L3 : Laid w3 := hL.below b3
      clear L3
      go_wp2
      go_loopw [43] (fun i W => ∃ (j : Nat) (c : CQ), i = .int .i64 (j : Int) ∧ RdI w W (w.heap.size + 1) pB cB F f0 ps ⟨kk, 0, 0, 0, 0, 0, 0, 0, o⟩ c j) (fun i W => m - (intOf i).toNat)
      case atStart => exact ⟨0, _, rfl, ⟨r3, f3, p3, x3, b3, Nat.zero_le _, hcB, ⟨Int.le_refl 0, show (0 : Int) ≤ 7 by decide⟩, rfl⟩⟩
      case round =>
        clear r3 f3 p3 x3 b3
        obtain ⟨j, c, rfl, I⟩ := hrel
        by_cases hlt : j < m
        · have hjp : j < ps.length := by omega
          have hjF : j < F.length := by omega
          have hp := hpm ps[j] (List.getElem_mem hjp)
          have kt := I.rf.cell (j + 1) (.string ⟨F[j].toArray⟩) (by simp [strV, hjF])
          have hkt : Hid (((f0 :: F).map strV)[j + 1]? = some (.string ⟨F[j].toArray⟩)) := by unfold Hid; simp [strV, hjF]
          have kp := I.rp.cell j (.int .i64 ps[j]) (by simp [hjp])
          have hgo := I.go
          rw [drop_get hjp, drop_get hjF] at hgo
          have hwj : IntKind.i64.wrap ((j : Int) + 1) = (j : Int) + 1 := by rw [IntKind.wrap_i64]; omega
          have hjm : (j : Int) < (m : Int) := by omega
          have hjn : (j : Int) + 1 < (n : Int) := by omega
          have hjn0 : (0 : Int) ≤ (j : Int) + 1 := by omega
          have htn : ((j : Int) + 1).toNat = j + 1 := by omega
          have hsl : F[j].length ≤ 281474976710656 := by have := hpl F[j] (List.mem_cons_of_mem _ (List.getElem_mem hjF)); omega
          generalize ps[j] = p at hp kp hgo
          generalize F[j] = t at kt hgo hsl hkt
          have HGo : Hid _ := hgo
          have HP : Hid _ := fun W (hW : Laid W) => withPart_any p c t W hp.1 hp.2 hsl hW
          have HSr : Hid _ := fun (nn : Int) (h : partI p t = some nn) => setPart_r (c := c) h I.hr hp.1 hp.2
          clear hgo hsl hp
          go_upto_region 12 with fail
          go_cut [11, 12, 43] (fun a ok i wx => ∃ (b : Nat) (c' : CQ), a = .pointer (some ⟨b, 0, none⟩) ∧ ok = .bool (partI p t).isSome ∧ i = .int .i64 (j : Int) ∧ RdC w wx (w.heap.size + 1) pB cB F f0 ps c c' b ∧ ∀ nn, partI p t = some nn → c' = setPart c p nn)
          case first =>
            have y0 := I.rc.cell 0 _ rfl; have y1 := I.rc.cell 1 _ rfl; have y2 := I.rc.cell 2 _ rfl; have y3 := I.rc.cell 3 _ rfl; have y4 := I.rc.cell 4 _ rfl; have y5 := I.rc.cell 5 _ rfl; have y6 := I.rc.cell 6 _ rfl; have y7 := I.rc.cell 7 _ rfl; have y8 := I.rc.cell 8 _ rfl
            have I2 := I.rf.alloc (.cells #[.int .i64 0, .int .i64 0, .int .i64 0, .int .i64 0, .int .i64 0, .int .i64 0, .int .i64 0, .int .i64 0, .bool false] 24)
            have kt2 := I2.cell (j + 1) (.string ⟨t.toArray⟩) hkt.out
            have C2 := I.rc.alloc (.cells #[.int .i64 0, .int .i64 0, .int .i64 0, .int .i64 0, .int .i64 0, .int .i64 0, .int .i64 0, .int .i64 0, .bool false] 24)
            have e0 := C2.cell 0 _ rfl; have e1 := C2.cell 1 _ rfl; have e2 := C2.cell 2 _ rfl; have e3 := C2.cell 3 _ rfl; have e4 := C2.cell 4 _ rfl; have e5 := C2.cell 5 _ rfl; have e6 := C2.cell 6 _ rfl; have e7 := C2.cell 7 _ rfl; have e8 := C2.cell 8 _ rfl
            have bA := I.bw.alloc I.bw.size (.cells #[.int .i64 0, .int .i64 0, .int .i64 0, .int .i64 0, .int .i64 0, .int .i64 0, .int .i64 0, .int .i64 0, .bool false] 24)
            have zN := Bx.newAt wr 24 [.int .i64 0, .int .i64 0, .int .i64 0, .int .i64 0, .int .i64 0, .int .i64 0, .int .i64 0, .int .i64 0, .bool false] (c := wr.heap.size) rfl
            go_region_with (go_at_call 22; (first | (refine Calls.mono (HP.out wr.drew (hL.below I.bw.drew)) ?_; rintro e w5 ⟨⟨c', rfl, hc'⟩, hb5⟩) | (refine Calls.mono (HP.out _ (hL.below bA.drew)) ?_; rintro e w5 ⟨⟨c', rfl, hc'⟩, hb5⟩; have z := zN.drew.below hb5; have z0 := z.cell 0 _ rfl; have z1 := z.cell 1 _ rfl; have z2 := z.cell 2 _ rfl; have z3 := z.cell 3 _ rfl; have z4 := z.cell 4 _ rfl; have z5 := z.cell 5 _ rfl; have z6 := z.cell 6 _ rfl; have z7 := z.cell 7 _ rfl; have z8 := z.cell 8 _ rfl; have zz := z.frozen)))
            all_goals (go_wp2_with fail; go_meet)
            all_goals (case rel =>
              have s1 := I.rr.lt
              have s2 := I.rf.lt
              have s3 := I.rp.lt
              have s4 := I.rc.lt
              have s5 := I.ho
              first
              | exact ⟨w5.heap.size, c', rfl, rfl, rfl, ⟨(I.rr.drew.below hb5).alloc _, (I.rf.drew.below hb5).alloc _, (I.rp.drew.below hb5).alloc _, (I.rc.drew.below hb5).alloc _, Bx.newAt w5 _ _ rfl, (I.bw.drew.trans (hb5.mono I.bw.size)).alloc (I.bw.drew.trans (hb5.mono I.bw.size)).size _, by have := hb5.size; simp only [World.drew] at this; omega⟩, hc'⟩
              | exact ⟨wr.heap.size, c', rfl, rfl, rfl, ⟨far9 ((I.rr.alloc _).drew.below hb5) (by omega) _ _ _ _ _ _ _ _ _, far9 ((I.rf.alloc _).drew.below hb5) (by omega) _ _ _ _ _ _ _ _ _, far9 ((I.rp.alloc _).drew.below hb5) (by omega) _ _ _ _ _ _ _ _ _, far9 ((I.rc.alloc _).drew.below hb5) (by omega) _ _ _ _ _ _ _ _ _, set9 (zN.drew.below hb5) _ _ _ _ _ _ _ _ _, below_set9m (bA.drew.trans (hb5.mono bA.size)) (by omega) _ _ _ _ _ _ _ _ _, by omega⟩, hc'⟩)
          case rest =>
            obtain ⟨b, c', rfl, rfl, rfl, X, hc'⟩ := hcut
            cases hpt : partI p t with
            | none =>
              have HK : Hid (readI s = none) := by unfold Hid; rw [HR2.out, HGo.out, readParts_none hpt]; rfl
              simp only [Option.isSome_none]
              have q0 := X.rr.cell 0 _ rfl; have q1 := X.rr.cell 1 _ rfl; have q2 := X.rr.cell 2 _ rfl; have q3 := X.rr.cell 3 _ rfl; have q4 := X.rr.cell 4 _ rfl; have q5 := X.rr.cell 5 _ rfl; have q6 := X.rr.cell 6 _ rfl; have q7 := X.rr.cell 7 _ rfl; have q8 := X.rr.cell 8 _ rfl; have qz := X.rr.frozen
              go_wp2
              refine bodyPost_ret (v := rdV none) (by simp [results, Tryz.results7, go_sem, rdV, CQ.zero, *]) rfl ⟨by rw [HK.out], below_set9 X.bw _ _ _ _ _ _ _ _ _⟩
            | some nn =>
              have HC := hc' nn hpt
              have HG2 : Hid _ := HGo.out.trans (readParts_some hpt)
              have HS2 : Hid _ := HSr.out nn hpt
              rw [← HC] at HG2 HS2
              clear HC hc'
              simp only [Option.isSome_some]
              have y0 := X.rx.cell 0 _ rfl; have y1 := X.rx.cell 1 _ rfl; have y2 := X.rx.cell 2 _ rfl; have y3 := X.rx.cell 3 _ rfl; have y4 := X.rx.cell 4 _ rfl; have y5 := X.rx.cell 5 _ rfl; have y6 := X.rx.cell 6 _ rfl; have y7 := X.rx.cell 7 _ rfl; have y8 := X.rx.cell 8 _ rfl
              have q0 := X.rc.cell 0 _ rfl; have q1 := X.rc.cell 1 _ rfl; have q2 := X.rc.cell 2 _ rfl; have q3 := X.rc.cell 3 _ rfl; have q4 := X.rc.cell 4 _ rfl; have q5 := X.rc.cell 5 _ rfl; have q6 := X.rc.cell 6 _ rfl; have q7 := X.rc.cell 7 _ rfl; have q8 := X.rc.cell 8 _ rfl
              have qz := X.rc.frozen
              go_wp2
              go_roundw
              case rel =>
                have s1 := I.ho
                exact ⟨j + 1, c', by go_num, ⟨far9 X.rr (by omega) _ _ _ _ _ _ _ _ _, far9 X.rf (by omega) _ _ _ _ _ _ _ _ _, far9 X.rp (by omega) _ _ _ _ _ _ _ _ _, set9 X.rc _ _ _ _ _ _ _ _ _, below_set9m X.bw (by omega) _ _ _ _ _ _ _ _ _, by omega, I.ho, HS2.out, HG2.out⟩⟩
              case measure => simp [intOf]; omega
        · have hjm : ¬ (j : Int) < (m : Int) := by omega
          have hgo := I.go
          rw [List.drop_eq_nil_of_le (show ps.length ≤ j by omega)] at hgo
          have HG : Hid (readI s = if c.ok = true then some c else none) := by unfold Hid; rw [HR2.out, hgo]; rfl
          clear hgo
          have HO : Hid _ := fun W => okImpl_any c.k c.a c.b c.r c.d c.g c.q c.f c.o W (by have := I.hr; omega) (by have := I.hr; omega)
          have y0 := I.rc.cell 0 _ rfl; have y1 := I.rc.cell 1 _ rfl; have y2 := I.rc.cell 2 _ rfl; have y3 := I.rc.cell 3 _ rfl; have y4 := I.rc.cell 4 _ rfl; have y5 := I.rc.cell 5 _ rfl; have y6 := I.rc.cell 6 _ rfl; have y7 := I.rc.cell 7 _ rfl; have y8 := I.rc.cell 8 _ rfl
          have hok : c.ok = okB c.k c.a c.b c.r c.d c.g c.q c.f c.o := rfl
          rw [hok] at HG
          clear hok
          cases hx : okB c.k c.a c.b c.r c.d c.g c.q c.f c.o
          · rw [hx] at HG HO
            have HK : Hid (readI s = none) := HG
            clear HG
            go_upto_region 18 with (go_at_call 14; refine Calls.mono (HO.out _) ?_; rintro e w5 ⟨rfl, hb5⟩)
            have r5 := I.rr.below (hb5)
            have b5 := I.bw.trans (hb5.mono I.bw.size)
            have q0 := r5.cell 0 _ rfl; have q1 := r5.cell 1 _ rfl; have q2 := r5.cell 2 _ rfl; have q3 := r5.cell 3 _ rfl; have q4 := r5.cell 4 _ rfl; have q5 := r5.cell 5 _ rfl; have q6 := r5.cell 6 _ rfl; have q7 := r5.cell 7 _ rfl; have q8 := r5.cell 8 _ rfl; have qz := r5.frozen
            go_wp2
            refine bodyPost_ret (v := rdV none) (by simp [results, Tryz.results7, go_sem, rdV, CQ.zero, *]) rfl ⟨by rw [HK.out], below_set9 b5 _ _ _ _ _ _ _ _ _⟩
          · rw [hx] at HG HO
            have HK : Hid (readI s = some c) := HG
            clear HG
            go_wp2_with (go_at_call 14; refine Calls.mono (HO.out _) ?_; rintro e w5 ⟨rfl, hb5⟩; have r5 := I.rr.below (hb5); have c5 := I.rc.below (hb5); have b5 := I.bw.trans (hb5.mono I.bw.size); clear y0 y1 y2 y3 y4 y5 y6 y7 y8; have q0 := r5.cell 0 _ rfl; have q1 := r5.cell 1 _ rfl; have q2 := r5.cell 2 _ rfl; have q3 := r5.cell 3 _ rfl; have q4 := r5.cell 4 _ rfl; have q5 := r5.cell 5 _ rfl; have q6 := r5.cell 6 _ rfl; have q7 := r5.cell 7 _ rfl; have q8 := r5.cell 8 _ rfl; have qz := r5.frozen; have y0 := c5.cell 0 _ rfl; have y1 := c5.cell 1 _ rfl; have y2 := c5.cell 2 _ rfl; have y3 := c5.cell 3 _ rfl; have y4 := c5.cell 4 _ rfl; have y5 := c5.cell 5 _ rfl; have y6 := c5.cell 6 _ rfl; have y7 := c5.cell 7 _ rfl; have y8 := c5.cell 8 _ rfl)
            refine bodyPost_ret (v := rdV (some c)) (by simp [results, Tryz.results7, go_sem, rdV, CQ.zero, *]) rfl ⟨by rw [HK.out], below_set9 b5 _ _ _ _ _ _ _ _ _⟩
    · have hq : ((n : Int) != (m : Int) + 1) = true := by simp; omega
      have hq2 : ¬ (n : Int) = (m : Int) + 1 := by omega
      have HK : Hid (readI s = none) := by unfold Hid; rw [HR2.out, if_neg hfl]
      have q0 := r3.cell 0 _ rfl; have q1 := r3.cell 1 _ rfl; have q2 := r3.cell 2 _ rfl; have q3 := r3.cell 3 _ rfl; have q4 := r3.cell 4 _ rfl; have q5 := r3.cell 5 _ rfl; have q6 := r3.cell 6 _ rfl; have q7 := r3.cell 7 _ rfl; have q8 := r3.cell 8 _ rfl; have qz := r3.frozen
      go_wp2
      refine bodyPost_ret (v := rdV none) (by simp [results, Tryz.results7, go_sem, rdV, CQ.zero, *]) rfl ⟨by rw [HK.out], below_set9 b3 _ _ _ _ _ _ _ _ _⟩

end Go.Proofs.YthmambhagheocaaGreatDoor
