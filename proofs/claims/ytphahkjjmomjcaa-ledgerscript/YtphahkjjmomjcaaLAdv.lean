/- Contract of ledger.Advance. -/
import Derived.Test.YtphahkjjmomjcaaLFun2

import Derived.Test.YtphahkjjmomjcaaLFun3

namespace Go.Proofs.Ytphahkjjmomjcaa

open Go.ChangeShapes Go.WideShapes Go.ChangeAt Go.RowKit

set_option linter.unusedVariables false

/-- the epochs that end, as a row -/
theorem ends_any (a b s : Int) (w : World) (ha : I64s a) (hb : I64s b) (hs : I64s s) :
    Calls Try.prog 51 #[.int .i64 a, .int .i64 b, .int .i64 s] w fun e w' => ∃ ao, e = .returned (.slice ao (ends a b s).toNat (ends a b s).toNat) ∧ RowIn .i64 w' ao (ends a b s).toNat (ends a b s).toNat (run (epo a s) (ends a b s).toNat) ∧ (∀ g off, ao = some ⟨g, off, none⟩ → w.heap.size ≤ g) ∧ Below w.heap.size w w' := by
  by_cases h : ends a b s ≤ 0
  · refine (ends_none a b s w ha hb hs h).mono ?_
    rintro e w' ⟨rfl, rfl⟩
    have h0 : (ends a b s).toNat = 0 := by omega
    rw [h0]
    exact ⟨none, rfl, RowIn.ofNil _ _, fun g off e => (by cases e), Below.refl _ _⟩
  · obtain ⟨n, hn⟩ : ∃ n : Nat, ends a b s = n := ⟨(ends a b s).toNat, by omega⟩
    refine (ends_some a b s n w ha hb hs (by omega) hn).mono ?_
    rintro e w' ⟨rfl, hown, hbel⟩
    rw [hn, Int.toNat_natCast]
    exact ⟨_, rfl, RowIn.owned hown, fun g off e => (by cases e; exact Nat.le_refl _), hbel⟩
theorem advK_e (bs : List Int) (s : Int) (f : Int → Int) (S : LS) (a : Int) : ∀ k : Nat, (advK bs s f S a k).e = if k = 0 then S.e else a + k
  | 0 => rfl
  | k + 1 => by rw [advK_succ, if_neg (by omega)]; show a + (k : Int) + 1 = _; omega
theorem ends_b (a b s : Int) (ha : I64s a) (hb : I64s b) (hs : I64s s) : (ends a b s).toNat ≤ 4096 ∧ 0 ≤ epo a s ∧ epo a s ≤ 9223372036854775807 ∧ (0 < (ends a b s).toNat → epo a s + ((ends a b s).toNat : Int) ≤ 9223372036854775807) := by
  have h0 := epo_b ha hs
  have h1 := epo_b hb hs
  unfold ends
  split <;> omega
theorem lpart_size (j : JS) (e : Int) (a1 : Option Addr) (l1 c1 : Nat) (a2 : Option Addr) (l2 c2 : Nat) : (lcells j e a1 l1 c1 a2 l2 c2).size = 13 := rfl

set_option maxRecDepth 100000 in
set_option maxHeartbeats 8000000 in
theorem adv_led (bs : List Int) (S : LS) (F : Nat) (cap : Array Value) (f : Int → Int) (a : Option Addr) (n c : Nat) (s b : Int) (a1 : Option Addr) (c1 : Nat) (a2 : Option Addr) (c2 : Nat) (slot : Int) (w : World)
    (hB : RowIn .u64 w a n c bs) (hu : ∀ z ∈ bs, 0 ≤ z ∧ z ≤ 18446744073709551615) (hV : RowB w a1 n c1 S.bf) (hU : RowB w a2 n c2 S.nw) (hn : 0 < n ∧ n ≤ 4096) (hF : Enters F) (hC : ChainOf w F cap f) (he : I64s S.e) (hs : I64s s) (hsl : I64s slot) :
    Calls Try.prog 27 #[.agg #[.slice a n c, .int .i64 s, .int .i64 b], .agg (lcells S.j S.e a1 n c1 a2 n c2), .int .i64 slot, chv F cap] w fun x w' =>
      ∃ b1 d1 b2 d2, x = .returned (.agg (lcells (advS bs s f S slot).j (advS bs s f S slot).e b1 n d1 b2 n d2)) ∧ RowB w' b1 n d1 (advS bs s f S slot).bf ∧ RowB w' b2 n d2 (advS bs s f S slot).nw ∧ (∀ b off, b1 = some ⟨b, off, none⟩ → w.heap.size ≤ b) ∧ (∀ b off, b2 = some ⟨b, off, none⟩ → w.heap.size ≤ b) ∧ Below w.heap.size w w' := by
  have hbl := hB.len
  have HX := hide (((OAt.new w (cfg a n c s b)).alloc (lobj S.j S.e a1 n c1 a2 n c2)).alloc (lobj jz 0 none 0 0 none 0 0))
  have HS := hide ((OAt.new (w.alloc (cfg a n c s b)) (lobj S.j S.e a1 n c1 a2 n c2)).alloc (lobj jz 0 none 0 0 none 0 0))
  have HT := hide (OAt.new ((w.alloc (cfg a n c s b)).alloc (lobj S.j S.e a1 n c1 a2 n c2)) (lobj jz 0 none 0 0 none 0 0))
  have HN := hide ((((Below.refl _ w).alloc (Nat.le_refl _) (cfg a n c s b)).alloc (by simp) (lobj S.j S.e a1 n c1 a2 n c2)).alloc (by simp; omega) (lobj jz 0 none 0 0 none 0 0))
  simp only [World.size_alloc] at HS HT
  have HBs := hide hB
  have HVs := hide hV
  have HUs := hide hU
  have HCs := hide hC
  have HUB := hide hu
  clear hB hV hU hC hu
  go_enter Try.func27, Try.ntmps27
  go_upto_region 1 with fail
  rw [show (#[Value.bool false, Value.bool false, Value.bool false, Value.bool false, Value.int IntKind.i64 0, Value.int IntKind.u64 0, Value.int IntKind.i64 0, Value.int IntKind.u64 0, Value.int IntKind.i64 0, Value.int IntKind.u64 0, Value.int IntKind.i64 0, Value.slice none 0 0, Value.slice none 0 0] : Array Value) = lcells jz 0 none 0 0 none 0 0 from rfl]
  generalize hW : ((w.alloc (cfg a n c s b)).alloc (lobj S.j S.e a1 n c1 a2 n c2)).alloc (lobj jz 0 none 0 0 none 0 0) = W at HX HS HT HN
  have hWs : W.heap.size = w.heap.size + 1 + 1 + 1 := by rw [← hW]; simp
  clear hW
  have LD := hide (load_obj Try.underlying66 infoLS rfl HS.out.at_)
  go_wp2_with (refine wpList_load_at 66 (.tmp 5) rfl rfl _ rfl _ LD.out ?_)
  refine (clone_led S.j S.e S.bf S.nw _ _ _ _ _ _ (HVs.out.below HN.out) (HUs.out.below HN.out) hn).mono ?_
  rintro x1 w1 ⟨b1, d1, b2, d2, rfl, R1, R2, E1, E2, hbel⟩
  have HX1 := hide ((HX.out.below hbel).alloc (lobj jz 0 none 0 0 none 0 0))
  have HS1 := hide ((HS.out.below hbel).alloc (lobj jz 0 none 0 0 none 0 0))
  have HT1 := hide ((HT.out.below hbel).alloc (lobj jz 0 none 0 0 none 0 0))
  have HG1 := hide (OAt.new w1 (lobj jz 0 none 0 0 none 0 0))
  have HN1 := hide ((HN.out.trans (hbel.mono (by omega))).alloc (by have := hbel.size; omega) (lobj jz 0 none 0 0 none 0 0))
  have F1 : Hid (∀ b off, b1 = some ⟨b, off, none⟩ → b < w1.heap.size ∧ w.heap.size + 1 + 1 < b) := fun b off e => ⟨R1.far hn.1 b off e, by have := E1 b off e; omega⟩
  have F2 : Hid (∀ b off, b2 = some ⟨b, off, none⟩ → b < w1.heap.size ∧ w.heap.size + 1 + 1 < b) := fun b off e => ⟨R2.far hn.1 b off e, by have := E2 b off e; omega⟩
  have HR1 := hide (R1.alloc (lobj jz 0 none 0 0 none 0 0))
  have HR2 := hide (R2.alloc (lobj jz 0 none 0 0 none 0 0))
  have hW1 : W.heap.size ≤ w1.heap.size := hbel.size
  obtain ⟨g, hg⟩ : ∃ x, Hid (w1.heap.size = x) := ⟨_, rfl⟩
  obtain ⟨w2, hrun, ho2, ha2⟩ := store_obj (P := Try.prog) (ty := 66) (n := 13) (cs := (lcells S.j S.e b1 n d1 b2 n d2).toList) infoLS rfl rfl (lcells_one _ _ _ _ _ _ _ _) HG1.out.at_
  have hrun' := hide hrun
  clear hrun hbel LD HX HS HT R1 R2
  go_upto_region 2 with (refine wpList_store_at 66 (.tmp 9) (.tmp 15) rfl rfl _ _ rfl rfl w2 hrun'.out ?_)
  have hsz2 : w1.heap.size < w2.heap.size := by have := ha2.size; simp at this; omega
  have HX2 := hide (HX1.out.apart ha2 (by omega))
  have HS2 := hide (HS1.out.apart ha2 (by omega))
  have HT2 := hide (HT1.out.apart ha2 (by omega))
  have HG2 := hide (OAt.of ho2)
  have HN2 := hide (HN1.out.trans (ha2.old _ (by simp; omega) (by omega)))
  have HR1' := hide (HR1.out.aside ha2 (fun b off e => by have := (F1.out b off e).1; omega))
  have HR2' := hide (HR2.out.aside ha2 (fun b off e => by have := (F2.out b off e).1; omega))
  clear HX1 HS1 HT1 HG1 HN1 HR1 HR2 ho2 ha2 hrun'
  rw [hg.out] at HG2 hsz2 hW1 F1 F2 ⊢
  obtain ⟨x1, hx1⟩ : ∃ x, Hid (en bs S.bf = x) := ⟨_, rfl⟩
  obtain ⟨x2, hx2⟩ : ∃ x, Hid (en bs S.nw = x) := ⟨_, rfl⟩
  have hcs : Hid (∀ w', Below w2.heap.size w2 w' → w'.cell? ⟨w.heap.size, 0, none⟩ = some (.slice a n c) ∧ w'.cell? ⟨w.heap.size, 1, none⟩ = some (.int .i64 s) ∧ w'.cell? ⟨w.heap.size, 2, none⟩ = some (.int .i64 b)) := fun w' h => by
    have V := HX2.out.below h
    exact ⟨V.cell 0, V.cell 1, V.cell 2⟩
  have hls : Hid (∀ w', Below w2.heap.size w2 w' → w'.cell? ⟨w.heap.size + 1, 10, none⟩ = some (.int .i64 S.e) ∧ w'.cell? ⟨w.heap.size + 1, 11, none⟩ = some (.slice a1 n c1) ∧ w'.cell? ⟨w.heap.size + 1, 12, none⟩ = some (.slice a2 n c2)) := fun w' h => by
    have V := HS2.out.below h
    exact ⟨V.cell 10, V.cell 11, V.cell 12⟩
  have hin : Hid (∀ w', Below w2.heap.size w2 w' → Below w.heap.size w w') := fun w' h => HN2.out.trans (h.mono HN2.out.size)
  refine startG (fun w' => Below w2.heap.size w2 w') 10 (by kernel_rfl) (Below.refl _ _).drew ?_
  refine takeG (i := 0) (v := .agg #[.slice a n c, .int .i64 s, .int .i64 b]) rfl rfl (by kernel_rfl) (by kernel_rfl) (by kernel_rfl) (by kernel_rfl) (fun _ _ _ h => h) (Or.inl ⟨by kernel_rfl, fun w' hSw => Or.inl ⟨w', ?_, hSw⟩⟩) ?_
  · have hl := hcs.out w' hSw; go_simp
  simp only [List.set_cons_succ, List.set_cons_zero]
  refine takeG (i := 1) (v := .pointer (some ⟨w.heap.size + 1, 11, none⟩)) rfl rfl (by kernel_rfl) (by kernel_rfl) (by kernel_rfl) (by kernel_rfl) (fun _ _ _ h => h) (Or.inl ⟨by kernel_rfl, fun w' hSw => Or.inl ⟨w', ?_, hSw⟩⟩) ?_
  · go_simp
  simp only [List.set_cons_succ, List.set_cons_zero]
  refine takeG (i := 2) (v := .slice a1 n c1) rfl rfl (by kernel_rfl) (by kernel_rfl) (by kernel_rfl) (by kernel_rfl) (fun _ _ _ h => h) (Or.inl ⟨by kernel_rfl, fun w' hSw => Or.inl ⟨w', ?_, hSw⟩⟩) ?_
  · have hl := hls.out w' hSw; go_simp
  simp only [List.set_cons_succ, List.set_cons_zero]
  refine takeG (i := 3) (v := .bool x1) rfl rfl (by kernel_rfl) (by kernel_rfl) (by kernel_rfl) (by kernel_rfl) (fun _ _ _ h => h) (Or.inl ⟨by kernel_rfl, fun w' hSw => doesOf rfl (by kernel_rfl) fun K hK => ?_⟩) ?_
  · go_simp
    refine (enough_led bs S.bf _ _ _ _ _ _ _ _ _ (HBs.out.below (hin.out _ hSw)) HUB.out (HVs.out.below (hin.out _ hSw)) hn.2).mono ?_
    rintro e w2 ⟨rfl, hb⟩
    rw [hx1.out]
    exact hK.out _ (hSw.trans (hb.mono hSw.size))
  simp only [List.set_cons_succ, List.set_cons_zero]
  refine takeG (i := 4) (v := .agg #[.slice a n c, .int .i64 s, .int .i64 b]) rfl rfl (by kernel_rfl) (by kernel_rfl) (by kernel_rfl) (by kernel_rfl) (fun _ _ _ h => h) (Or.inl ⟨by kernel_rfl, fun w' hSw => Or.inl ⟨w', ?_, hSw⟩⟩) ?_
  · have hl := hcs.out w' hSw; go_simp
  simp only [List.set_cons_succ, List.set_cons_zero]
  refine takeG (i := 5) (v := .pointer (some ⟨w.heap.size + 1, 12, none⟩)) rfl rfl (by kernel_rfl) (by kernel_rfl) (by kernel_rfl) (by kernel_rfl) (fun _ _ _ h => h) (Or.inl ⟨by kernel_rfl, fun w' hSw => Or.inl ⟨w', ?_, hSw⟩⟩) ?_
  · go_simp
  simp only [List.set_cons_succ, List.set_cons_zero]
  refine takeG (i := 6) (v := .slice a2 n c2) rfl rfl (by kernel_rfl) (by kernel_rfl) (by kernel_rfl) (by kernel_rfl) (fun _ _ _ h => h) (Or.inl ⟨by kernel_rfl, fun w' hSw => Or.inl ⟨w', ?_, hSw⟩⟩) ?_
  · have hl := hls.out w' hSw; go_simp
  simp only [List.set_cons_succ, List.set_cons_zero]
  refine takeG (i := 7) (v := .bool x2) rfl rfl (by kernel_rfl) (by kernel_rfl) (by kernel_rfl) (by kernel_rfl) (fun _ _ _ h => h) (Or.inl ⟨by kernel_rfl, fun w' hSw => doesOf rfl (by kernel_rfl) fun K hK => ?_⟩) ?_
  · go_simp
    refine (enough_led bs S.nw _ _ _ _ _ _ _ _ _ (HBs.out.below (hin.out _ hSw)) HUB.out (HUs.out.below (hin.out _ hSw)) hn.2).mono ?_
    rintro e w2 ⟨rfl, hb⟩
    rw [hx2.out]
    exact hK.out _ (hSw.trans (hb.mono hSw.size))
  simp only [List.set_cons_succ, List.set_cons_zero]
  refine takeG (i := 8) (v := .bool x1) rfl rfl (by kernel_rfl) (by kernel_rfl) (by kernel_rfl) (by kernel_rfl) (fun _ _ _ h => h) (Or.inl ⟨by kernel_rfl, fun w' hSw => Or.inl ⟨w', ?_, hSw⟩⟩) ?_
  · go_simp
  simp only [List.set_cons_succ, List.set_cons_zero]
  refine takeG (i := 9) (v := .bool x2) rfl rfl (by kernel_rfl) (by kernel_rfl) (by kernel_rfl) (by kernel_rfl) (fun _ _ _ h => h) (Or.inl ⟨by kernel_rfl, fun w' hSw => Or.inl ⟨w', ?_, hSw⟩⟩) ?_
  · go_simp
  simp only [List.set_cons_succ, List.set_cons_zero]
  refine doneG (by kernel_rfl) fun w' hSw => ?_
  have hbel := hSw
  replace HX2 := hide (HX2.out.below hbel)
  replace HT2 := hide (HT2.out.below hbel)
  replace HG2 := hide (HG2.out.below hbel)
  replace HR1' := hide (HR1'.out.below hbel)
  replace HR2' := hide (HR2'.out.below hbel)
  replace HN2 := hide (HN2.out.trans (Below.mono hbel HN2.out.size))
  have hsz3 : g < w'.heap.size := by have := Below.size hbel; omega
  have hl1 := hcs.out w' hbel
  have hl2 := hls.out w' hbel
  clear hSw hbel hcs hls hin HS2 hsz2
  have hP := wrap64_b (S.e * s)
  obtain ⟨P, hPd⟩ : ∃ x, Hid (wrap64 (S.e * s) = x) := ⟨_, rfl⟩
  rw [hPd.out] at hP
  have hpw : IntKind.i64.wrap (S.e * s) = P := by rw [← hPd.out, IntKind.wrap_i64]; unfold wrap64; omega
  go_wp2_with (go_at_call 51; refine (ends_any P slot s _ hP hsl hs).mono ?_)
  rintro x3 w4 ⟨ae, rfl, RE, NE, hbel⟩
  have hNb := ends_b P slot s hP hsl hs
  have hAdv : Hid (advS bs s f S slot = advK bs s f S (epo P s) (ends P slot s).toNat) := by unfold advS; rw [hPd.out]; exact hide rfl
  obtain ⟨N, hN⟩ : ∃ x, (ends P slot s).toNat = x := ⟨_, rfl⟩
  obtain ⟨A, hA⟩ : ∃ x, epo P s = x := ⟨_, rfl⟩
  rw [hN, hA] at hNb hAdv RE
  rw [hN]
  replace HX2 := hide (HX2.out.below hbel)
  replace HT2 := hide (HT2.out.below hbel)
  replace HG2 := hide (HG2.out.below hbel)
  replace HR1' := hide (HR1'.out.below hbel)
  replace HR2' := hide (HR2'.out.below hbel)
  replace HN2 := hide (HN2.out.trans (Below.mono hbel HN2.out.size))
  have hREn : Hid (∀ b off, ae = some ⟨b, off, none⟩ → b ≠ g) := fun b off e => by have := NE b off e; omega
  have hsz4 : g < w4.heap.size := by have := Below.size hbel; omega
  have HRE := hide RE
  clear RE NE hbel hl1 hl2 hN hA hP hpw hPd hsz3
  go_wp2
  have hrow : Hid (∀ wr, Apart g w4 wr → RowIn .i64 wr ae N N (run A N)) := fun wr h => HRE.out.aside h hREn.out
  have hxr : Hid (∀ wr, Apart g w4 wr → OAt wr w.heap.size (cfg a n c s b) ∧ OAt wr (w.heap.size + 1 + 1) (lobj jz 0 none 0 0 none 0 0) ∧ Below w.heap.size w wr) := fun wr h => ⟨HX2.out.apart h (by omega), HT2.out.apart h (by omega), HN2.out.trans (h.old _ HN2.out.size (by omega))⟩
  go_loopw [10, 11, 34] (fun x y i wr => ∃ (k : Nat) (b1 : Option Addr) (d1 : Nat) (b2 : Option Addr) (d2 : Nat), k ≤ N ∧ i = .int .i64 k ∧ x = .bool (en bs (advK bs s f S A k).bf) ∧ y = .bool (en bs (advK bs s f S A k).nw) ∧
    Hid (OAt wr g (lobj (advK bs s f S A k).j (advK bs s f S A k).e b1 n d1 b2 n d2) ∧ RowB wr b1 n d1 (advK bs s f S A k).bf ∧ RowB wr b2 n d2 (advK bs s f S A k).nw ∧ (∀ b off, b1 = some ⟨b, off, none⟩ → b ≠ g ∧ w.heap.size + 1 + 1 < b) ∧ (∀ b off, b2 = some ⟨b, off, none⟩ → b ≠ g ∧ w.heap.size + 1 + 1 < b) ∧ Apart g w4 wr)) (fun x y i _ => N - (intOf i).toNat)
  case atStart => exact ⟨0, b1, d1, b2, d2, Nat.zero_le _, rfl, by rw [← hx1.out]; rfl, by rw [← hx2.out]; rfl, hide ⟨HG2.out, HR1'.out, HR2'.out, fun b off e => ⟨Nat.ne_of_lt (F1.out b off e).1, (F1.out b off e).2⟩, fun b off e => ⟨Nat.ne_of_lt (F2.out b off e).1, (F2.out b off e).2⟩, Apart.refl _ _⟩⟩
  case round =>
    clear HG2 HR1' HR2' F1 F2 hx1 hx2
    obtain ⟨k, b1, d1, b2, d2, hk, rfl, rfl, rfl, hI⟩ := hrel
    obtain ⟨hG, hR1, hR2, hF1, hF2, hap⟩ := hI.out
    obtain ⟨hX, hT, hNr⟩ := hxr.out _ hap
    by_cases hlt : k < N
    · obtain ⟨ge, offe, rfl, _, hcn⟩ := (hrow.out _ hap).cell k hlt
      rw [run_get _ _ _ hlt] at hcn
      have hnew := hide (advK_succ bs s f S A k)
      have hee := advK_e bs s f S A k
      obtain ⟨Sk, hSk⟩ : ∃ x, Hid (advK bs s f S A k = x) := ⟨_, rfl⟩
      rw [hSk.out] at hnew hee hG hR1 hR2 ⊢
      have heb : I64s Sk.e := by
        rw [hee]
        split
        · exact he
        · unfold I64s; omega
      have hAk : 0 ≤ A + (k : Int) ∧ A + (k : Int) + 1 ≤ 9223372036854775807 := by omega
      clear hee hk
      obtain ⟨J', hJ'⟩ : ∃ x, Hid (endJ f s Sk.j Sk.e (en bs Sk.bf) (en bs Sk.nw) = x) := ⟨_, rfl⟩
      have LJ := hide (load_js hG)
      have hc0 := hX.cell 0
      have hc1 := hX.cell 1
      have hc2 := hX.cell 2
      have hg10 := hG.lc.1
      simp only [List.getElem?_toArray, List.getElem?_cons_zero, List.getElem?_cons_succ] at hc0 hc1 hc2
      have HCw := hide (HCs.out.below hNr)
      have HI := hide (And.intro hG (And.intro hR1 (And.intro hR2 (And.intro hap hNr))))
      have HF1 := hide hF1
      have HF2 := hide hF2
      clear hG hR1 hR2 hap hX hT hNr hI hF1 hF2
      have HE := hide (end_led F cap f a n c s b Sk.j Sk.e (en bs Sk.bf) (en bs Sk.nw) wr hF HCw.out heb hs)
      go_wp2_with (refine wpList_load_at 64 (.tmp 39) rfl rfl _ rfl _ LJ.out ?_)
      refine HE.out.mono ?_
      clear HE
      rintro xe w5 ⟨rfl, hbel⟩
      rw [hJ'.out]
      obtain ⟨hG, hR1, hR2, hap, hNr⟩ := HI.out
      have hap5 := hap.trans (Apart.of hbel)
      obtain ⟨w6, hrun, ho6, ha6⟩ := store_part (P := Try.prog) (ty := 64) (n := 10) (o := 0) (cs := J'.cells.toList) infoJS rfl (by simp) (jcells_one _) (hG.below hbel).at_
      have hG6 : OAt w6 g (lobj J' Sk.e b1 n d1 b2 n d2) := OAt.js ho6
      have hf6 := hG6.soft
      have hq6 := hG6.lc.1
      have HR1 := hide ((hR1.below hbel).aside ha6 (fun b off e => (HF1.out b off e).1))
      have HR2 := hide ((hR2.below hbel).aside ha6 (fun b off e => (HF2.out b off e).1))
      have HAP := hide ((hap5.trans ha6).set 10 (.int .i64 (A + (k : Int) + 1)))
      have HG7 : Hid (OAt (w6.setCell ⟨g, 10, none⟩ (.int .i64 (A + (k : Int) + 1))) g (lobj J' (A + (k : Int) + 1) b1 n d1 b2 n d2)) := hG6.setE _
      replace HR1 := hide (HR1.out.aside ((Apart.refl g w6).set 10 (.int .i64 (A + (k : Int) + 1))) (fun b off e => (HF1.out b off e).1))
      replace HR2 := hide (HR2.out.aside ((Apart.refl g w6).set 10 (.int .i64 (A + (k : Int) + 1))) (fun b off e => (HF2.out b off e).1))
      have hrun' := hide hrun
      clear hG hR1 hR2 hap hNr hap5 hbel ho6 ha6 hG6 hrun HI LJ HCw hc0 hc1 hc2 hg10
      have hwr : IntKind.i64.wrap (A + (k : Int) + 1) = A + (k : Int) + 1 := by rw [IntKind.wrap_i64]; omega
      go_upto_region 8 with (refine wpList_store_at 64 (.tmp 47) (.tmp 46) rfl rfl _ _ rfl rfl w6 hrun'.out ?_)
      generalize w6.setCell ⟨g, 10, none⟩ (.int .i64 (A + (k : Int) + 1)) = w7 at HG7 HAP HR1 HR2
      clear hrun' hf6 hq6 hwr
      have hx3 : Hid (∀ w', Apart g w4 w' → w'.cell? ⟨w.heap.size, 0, none⟩ = some (.slice a n c) ∧ w'.cell? ⟨w.heap.size, 1, none⟩ = some (.int .i64 s) ∧ w'.cell? ⟨w.heap.size, 2, none⟩ = some (.int .i64 b)) := fun w' h => by
        have V := (hxr.out _ h).1
        exact ⟨V.cell 0, V.cell 1, V.cell 2⟩
      have HG8 := hide (HG7.out.drew)
      have HA8 := hide (HAP.out.drew)
      have HR18 := hide (HR1.out.drew)
      have HR28 := hide (HR2.out.drew)
      have hs8 : g < w7.drew.heap.size := HG8.out.lt
      refine wp_region_noPanic ?_
      refine wp_region_held_drew (S := fun w' => Apart g w4 w') (by kernel_rfl) HA8.out (fun hHeld => ?_)
      generalize w7.drew = w8 at HG8 HA8 HR18 HR28 hs8 hHeld
      clear HG7 HAP HR1 HR2
      refine take_set (i := 0) (v := .pointer (some ⟨g, 12, none⟩)) rfl rfl (by kernel_rfl) (by kernel_rfl) (by kernel_rfl) (fun _ _ _ h => h) (Or.inl ⟨by kernel_rfl, fun w' hSw => ?_⟩) hHeld ?_
      · go_simp
      simp only [List.set_cons_succ, List.set_cons_zero]
      refine take_set (i := 2) (v := .agg #[.slice a n c, .int .i64 s, .int .i64 b]) rfl rfl (by kernel_rfl) (by kernel_rfl) (by kernel_rfl) (fun _ _ _ h => h) (Or.inl ⟨by kernel_rfl, fun w' hSw => ?_⟩) hHeld ?_
      · have hl := hx3.out w' hSw; go_simp
      simp only [List.set_cons_succ, List.set_cons_zero]
      refine wpAnyH_ready (rs := [1, 3]) (by kernel_rfl) (by simp) ?_
      refine AllReadyH.cons (o := _) rfl (fun K hK => ?_) (AllReadyH.cons (o := _) rfl (fun K hK => ?_) AllReadyH.nil)
      · have hl := HG8.out.lc.2.2
        go_simp
        refine hK.out _ _ (HA8.out) (fun hHeld => ?_)
        clear hK K
        clear hl
        refine take_set (i := 4) (v := .pointer (some ⟨g, 11, none⟩)) rfl rfl (by kernel_rfl) (by kernel_rfl) (by kernel_rfl) (fun _ _ _ h => h) (Or.inl ⟨by kernel_rfl, fun w' hSw => ?_⟩) hHeld ?_
        · go_simp
        simp only [List.set_cons_succ, List.set_cons_zero]
        refine wpAnyH_ready (rs := [3]) (by kernel_rfl) (by simp) ?_
        refine AllReadyH.cons (o := _) rfl (fun K hK => ?_) AllReadyH.nil
        go_simp
        refine (nobody_any a n c s b _ hn.2).mono ?_
        rintro xn w9 ⟨gn, rfl, hON, hge, hbel⟩
        have hgn : gn ≠ g := by omega
        have hgn2 : w.heap.size + 1 + 1 < gn := by omega
        replace HG8 := hide (HG8.out.below hbel)
        replace HA8 := hide (HA8.out.trans (Apart.of hbel))
        replace HR18 := hide (HR18.out.below hbel)
        replace HR28 := hide (HR28.out.below hbel)
        have HON := hide hON
        clear hbel hON hge
        refine hK.out _ _ (HA8.out) (fun hHeld => ?_)
        clear hK K
        have hq11 := HG8.out.lc.2.1
        have hq12 := HG8.out.lc.2.2
        have hf9 := HG8.out.soft
        have HA9 := hide ((HA8.out.set 11 (.slice b2 n d2)).set 12 (.slice (some ⟨gn, 0, none⟩) n n))
        have HA10 := hide (((Apart.refl g w9).set 11 (.slice b2 n d2)).set 12 (.slice (some ⟨gn, 0, none⟩) n n))
        have HG9 : Hid (OAt ((w9.setCell ⟨g, 11, none⟩ (.slice b2 n d2)).setCell ⟨g, 12, none⟩ (.slice (some ⟨gn, 0, none⟩) n n)) g (lobj J' (A + (k : Int) + 1) b2 n d2 (some ⟨gn, 0, none⟩) n n)) := (HG8.out.set1 _ _ _).set2 _ _ _
        have HR29 := hide (HR28.out.aside HA10.out (fun b off e => (HF2.out b off e).1))
        have HN9 := hide (RowB.obj (n := n) (HON.out.apart HA10.out hgn) (by simp) (by unfold maxLen; omega))
        refine wpAnyH_ready (rs := [5]) (by kernel_rfl) (by simp) ?_
        refine AllReadyH.cons (o := _) rfl (fun K hK => ?_) AllReadyH.nil
        go_simp
        refine hK.out _ _ (HA8.out.set 11 _) (fun hHeld => ?_)
        clear hK K
        refine take_set (i := 6) (v := .pointer (some ⟨g, 12, none⟩)) rfl rfl (by kernel_rfl) (by kernel_rfl) (by kernel_rfl) (fun _ _ _ h => h) (Or.inl ⟨by kernel_rfl, fun w' hSw => ?_⟩) hHeld ?_
        · go_simp
        simp only [List.set_cons_succ, List.set_cons_zero]
        refine wpAnyH_ready (rs := [7]) (by kernel_rfl) (by simp) ?_
        refine AllReadyH.cons (o := _) rfl (fun K hK => ?_) AllReadyH.nil
        go_simp
        refine hK.out _ _ (HA9.out) (fun hHeld => ?_)
        clear hK K
        refine wpAnyH_done (by kernel_rfl) ?_ _
        refine NoPanic.normal ?_
        generalize (w9.setCell ⟨g, 11, none⟩ (.slice b2 n d2)).setCell ⟨g, 12, none⟩ (.slice (some ⟨gn, 0, none⟩) n n) = w10 at HA9 HG9 HR29 HN9
        clear HA10 HG8 HA8 HR18 HR28 HON hq11 hq12 hf9
        have hS' : Hid (advK bs s f S A (k + 1) = ⟨J', A + (k : Int) + 1, Sk.nw, List.replicate n false⟩) := by
          rw [hnew.out, ← hJ'.out, ← hbl]
          exact hide rfl
        go_wp2
        go_roundw
        case rel => exact ⟨k + 1, b2, d2, some ⟨gn, 0, none⟩, n, by omega, by go_num, by rw [hS'.out], by rw [hS'.out, ← hbl, en_none], hide (by rw [hS'.out]; exact ⟨HG9.out, HR29.out, HN9.out, HF2.out, fun b off e => by cases e; exact ⟨hgn, by omega⟩, HA9.out⟩)⟩
        case measure => simp [intOf]; omega
      · go_simp
        refine (nobody_any a n c s b _ hn.2).mono ?_
        rintro xn w9 ⟨gn, rfl, hON, hge, hbel⟩
        have hgn : gn ≠ g := by omega
        have hgn2 : w.heap.size + 1 + 1 < gn := by omega
        replace HG8 := hide (HG8.out.below hbel)
        replace HA8 := hide (HA8.out.trans (Apart.of hbel))
        replace HR18 := hide (HR18.out.below hbel)
        replace HR28 := hide (HR28.out.below hbel)
        have HON := hide hON
        clear hbel hON hge
        refine hK.out _ _ (HA8.out) (fun hHeld => ?_)
        clear hK K
        have hl := HG8.out.lc.2.2
        refine wpAnyH_ready (rs := [1]) (by kernel_rfl) (by simp) ?_
        refine AllReadyH.cons (o := _) rfl (fun K hK => ?_) AllReadyH.nil
        go_simp
        refine hK.out _ _ (HA8.out) (fun hHeld => ?_)
        clear hK K
        clear hl
        refine take_set (i := 4) (v := .pointer (some ⟨g, 11, none⟩)) rfl rfl (by kernel_rfl) (by kernel_rfl) (by kernel_rfl) (fun _ _ _ h => h) (Or.inl ⟨by kernel_rfl, fun w' hSw => ?_⟩) hHeld ?_
        · go_simp
        simp only [List.set_cons_succ, List.set_cons_zero]
        have hq11 := HG8.out.lc.2.1
        have hq12 := HG8.out.lc.2.2
        have hf9 := HG8.out.soft
        have HA9 := hide ((HA8.out.set 11 (.slice b2 n d2)).set 12 (.slice (some ⟨gn, 0, none⟩) n n))
        have HA10 := hide (((Apart.refl g w9).set 11 (.slice b2 n d2)).set 12 (.slice (some ⟨gn, 0, none⟩) n n))
        have HG9 : Hid (OAt ((w9.setCell ⟨g, 11, none⟩ (.slice b2 n d2)).setCell ⟨g, 12, none⟩ (.slice (some ⟨gn, 0, none⟩) n n)) g (lobj J' (A + (k : Int) + 1) b2 n d2 (some ⟨gn, 0, none⟩) n n)) := (HG8.out.set1 _ _ _).set2 _ _ _
        have HR29 := hide (HR28.out.aside HA10.out (fun b off e => (HF2.out b off e).1))
        have HN9 := hide (RowB.obj (n := n) (HON.out.apart HA10.out hgn) (by simp) (by unfold maxLen; omega))
        refine wpAnyH_ready (rs := [5]) (by kernel_rfl) (by simp) ?_
        refine AllReadyH.cons (o := _) rfl (fun K hK => ?_) AllReadyH.nil
        go_simp
        refine hK.out _ _ (HA8.out.set 11 _) (fun hHeld => ?_)
        clear hK K
        refine take_set (i := 6) (v := .pointer (some ⟨g, 12, none⟩)) rfl rfl (by kernel_rfl) (by kernel_rfl) (by kernel_rfl) (fun _ _ _ h => h) (Or.inl ⟨by kernel_rfl, fun w' hSw => ?_⟩) hHeld ?_
        · go_simp
        simp only [List.set_cons_succ, List.set_cons_zero]
        refine wpAnyH_ready (rs := [7]) (by kernel_rfl) (by simp) ?_
        refine AllReadyH.cons (o := _) rfl (fun K hK => ?_) AllReadyH.nil
        go_simp
        refine hK.out _ _ (HA9.out) (fun hHeld => ?_)
        clear hK K
        refine wpAnyH_done (by kernel_rfl) ?_ _
        refine NoPanic.normal ?_
        generalize (w9.setCell ⟨g, 11, none⟩ (.slice b2 n d2)).setCell ⟨g, 12, none⟩ (.slice (some ⟨gn, 0, none⟩) n n) = w10 at HA9 HG9 HR29 HN9
        clear HA10 HG8 HA8 HR18 HR28 HON hq11 hq12 hf9
        have hS' : Hid (advK bs s f S A (k + 1) = ⟨J', A + (k : Int) + 1, Sk.nw, List.replicate n false⟩) := by
          rw [hnew.out, ← hJ'.out, ← hbl]
          exact hide rfl
        go_wp2
        go_roundw
        case rel => exact ⟨k + 1, b2, d2, some ⟨gn, 0, none⟩, n, by omega, by go_num, by rw [hS'.out], by rw [hS'.out, ← hbl, en_none], hide (by rw [hS'.out]; exact ⟨HG9.out, HR29.out, HN9.out, HF2.out, fun b off e => by cases e; exact ⟨hgn, by omega⟩, HA9.out⟩)⟩
        case measure => simp [intOf]; omega
    · have hkk : k = N := by omega
      subst hkk
      rw [← hAdv.out] at hG hR1 hR2
      obtain ⟨Sk, hSk⟩ : ∃ x, Hid (advS bs s f S slot = x) := ⟨_, rfl⟩
      rw [hSk.out] at hG hR1 hR2
      have LD := hide (load_obj Try.underlying66 infoLS rfl hG.at_)
      obtain ⟨w6, hrun, ho6, ha6⟩ := store_obj (P := Try.prog) (ty := 66) (n := 13) (cs := (lcells Sk.j Sk.e b1 n d1 b2 n d2).toList) infoLS rfl rfl (lcells_one _ _ _ _ _ _ _ _) hT.at_
      have HR1 := hide (hR1.aside ha6 (fun b off e => by have := (hF1 b off e).2; omega))
      have HR2 := hide (hR2.aside ha6 (fun b off e => by have := (hF2 b off e).2; omega))
      have HN6 := hide (hNr.trans (ha6.old _ hNr.size (by omega)))
      have hrun' := hide hrun
      have ho6' := hide ho6
      have HF1 := hide hF1
      have HF2 := hide hF2
      clear hrun ho6 ha6 hG hR1 hR2 hF1 hF2 hap hX hT hNr hI hAdv
      go_wp2_with (first | refine wpList_load_at 66 (.tmp 9) rfl rfl _ rfl _ LD.out ?_ | refine wpList_store_at 66 (.tmp 8) (.tmp 59) rfl rfl _ _ rfl rfl w6 hrun'.out ?_)
      exact ret_struct rfl rfl ho6'.out Try.underlying66 infoLS rfl ⟨b1, d1, b2, d2, by rw [hSk.out], by rw [hSk.out]; exact HR1.out, by rw [hSk.out]; exact HR2.out, fun b off e => by have := (HF1.out b off e).2; omega, fun b off e => by have := (HF2.out b off e).2; omega, HN6.out⟩
end Go.Proofs.Ytphahkjjmomjcaa
