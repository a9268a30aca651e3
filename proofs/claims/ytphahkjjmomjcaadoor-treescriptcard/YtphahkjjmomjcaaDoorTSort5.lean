/- Contract of slices.Sort of fewer than fifty numbers of 64 bits without a sign, all unlike. -/
import Derived.Test.YtphahkjjmomjcaaDoorTSort3

import Derived.Test.YtphahkjjmomjcaaDoorTSort4

import Derived.Test.YtphahkjjmomjcaaDoorTCut

namespace Go.Proofs.YtphahkjjmomjcaaDoor

open Go.ChangeShapes Go.WideShapes Go.ChangeAt Go.RowKit

open Go.Sort (swp ltInt PermIn SortedIn SWO insertionSort heapSort)

set_option linter.unusedVariables false

theorem permIn_whole {a b : Nat} {d d' : Array Int} (h : PermIn a b d d') (hb : b ≤ d.size) : d'.toList.Perm d.toList := by
  have h2 := (Go.Sort.permIn_mono d d' a b 0 d.size (Nat.zero_le _) hb (Nat.le_refl _) h).2.2
  have hs := h.1
  have e1 : d'.extract 0 d.size = d' := by rw [← hs]; simp
  have e2 : d.extract 0 d.size = d := by simp
  rw [e1, e2] at h2
  exact h2
def Nd (d : Array Int) : Prop := d.toList.Nodup
theorem Nd.perm {a b : Nat} {d d' : Array Int} (h : Nd d) (hp : PermIn a b d d') (hb : b ≤ d.size) : Nd d' := (permIn_whole hp hb).nodup_iff.2 h
theorem Nd.ne {d : Array Int} (h : Nd d) {i j : Nat} (hi : i < d.size) (hj : j < d.size) (hne : i ≠ j) : d[i]! ≠ d[j]! := by
  intro e
  simp only [getElem!_pos d i hi, getElem!_pos d j hj] at e
  have hi' : i < d.toList.length := by simpa using hi
  have hj' : j < d.toList.length := by simpa using hj
  have e2 : d.toList[i] = d.toList[j] := by simpa using e
  have hp := List.pairwise_iff_getElem.1 (show d.toList.Pairwise (· ≠ ·) from h)
  rcases Nat.lt_or_gt_of_ne hne with hlt | hlt
  · exact hp i j hi' hj' hlt e2
  · exact hp j i hj' hi' hlt e2.symm
/-- what lies ahead is less -/
def Bel (a b : Nat) (d : Array Int) : Prop := a = 0 ∨ ∀ i, a ≤ i → i < b → d[a - 1]! < d[i]!
theorem Bel.perm {a b : Nat} {d d' : Array Int} (h : Bel a b d) (hp : PermIn a b d d') (hb : b ≤ d.size) : Bel a b d' := by
  rcases h with h | h
  · exact .inl h
  · by_cases h0 : a = 0
    · exact .inl h0
    · refine .inr fun i h1 h2 => ?_
      rw [hp.2.1 (a - 1) (.inl (by omega))]
      exact Go.Sort.permIn_all d d' a b (fun x => d[a - 1]! < x) hb hp h i h1 h2
theorem glue {a mid b : Nat} {d : Array Int} (h1 : ∀ x, a ≤ x → x < mid → d[x]! < d[mid]!) (h2 : ∀ x, mid < x → x < b → d[mid]! ≤ d[x]!) (s1 : SortedIn ltInt a mid d) (s2 : SortedIn ltInt (mid + 1) b d) : SortedIn ltInt a b d := by
  intro i j hi hij hj
  simp only [ltInt, decide_eq_false_iff_not]
  by_cases e1 : j < mid
  · have := s1 i j hi hij e1
    simpa [ltInt] using this
  · by_cases e2 : mid < i
    · have := s2 i j (by omega) hij hj
      simpa [ltInt] using this
    · by_cases e3 : i = mid
      · rw [e3]
        have := h2 j (by omega) hj
        omega
      · have h3 := h1 i hi (by omega)
        by_cases e4 : j = mid
        · rw [e4]; omega
        · have := h2 j (by omega) hj
          omega
/-- what the sort is after, from a part on -/
def Cont (a b : Nat) (d : Array Int) (a1 b1 : Nat) (dk : Array Int) : Prop := ∀ d', PermIn a1 b1 dk d' → SortedIn ltInt a1 b1 d' → PermIn a b d d' ∧ SortedIn ltInt a b d'
theorem Cont.perm {a b a1 b1 : Nat} {d dk d2 : Array Int} (h : Cont a b d a1 b1 dk) (hp : PermIn a1 b1 dk d2) : Cont a b d a1 b1 d2 := fun d' h1 h2 => h d' (Go.Sort.permIn_trans _ _ _ _ _ hp h1) h2
theorem Cont.left {a b a1 b1 mid : Nat} {d d4 d5 : Array Int} (h : Cont a b d a1 b1 d4) (ha : a1 ≤ mid) (hm : mid < b1) (hb : b1 ≤ d4.size) (hlo : ∀ x, a1 ≤ x → x < mid → d4[x]! < d4[mid]!) (hhi : ∀ x, mid < x → x < b1 → d4[mid]! ≤ d4[x]!) (hp : PermIn a1 mid d4 d5) (hs : SortedIn ltInt a1 mid d5) : Cont a b d (mid + 1) b1 d5 := fun d' h1 h2 => by
  have hsz : d5.size = d4.size := hp.1
  refine h d' (Go.Sort.permIn_trans _ _ _ _ _ (Go.Sort.permIn_mono _ _ _ _ _ _ (Nat.le_refl _) (by omega) hb hp) (Go.Sort.permIn_mono _ _ _ _ _ _ (by omega) (Nat.le_refl _) (by omega) h1)) ?_
  have em : d'[mid]! = d4[mid]! := by rw [h1.2.1 mid (.inl (by omega)), hp.2.1 mid (.inr (Nat.le_refl _))]
  refine glue (mid := mid) (fun x hx1 hx2 => ?_) (fun x hx1 hx2 => ?_) (fun i j hi hij hj => ?_) h2
  · rw [em, h1.2.1 x (.inl (by omega))]
    exact Go.Sort.permIn_all d4 d5 a1 mid (fun y => y < d4[mid]!) (by omega) hp hlo x hx1 hx2
  · rw [em]
    refine Go.Sort.permIn_all d5 d' (mid + 1) b1 (fun y => d4[mid]! ≤ y) (by omega) h1 (fun y hy1 hy2 => ?_) x (by omega) hx2
    rw [hp.2.1 y (.inr (by omega))]
    exact hhi y (by omega) hy2
  · rw [h1.2.1 i (.inl (by omega)), h1.2.1 j (.inl (by omega))]
    exact hs i j hi hij hj
theorem Cont.right {a b a1 b1 mid : Nat} {d d4 d5 : Array Int} (h : Cont a b d a1 b1 d4) (ha : a1 ≤ mid) (hm : mid < b1) (hb : b1 ≤ d4.size) (hlo : ∀ x, a1 ≤ x → x < mid → d4[x]! < d4[mid]!) (hhi : ∀ x, mid < x → x < b1 → d4[mid]! ≤ d4[x]!) (hp : PermIn (mid + 1) b1 d4 d5) (hs : SortedIn ltInt (mid + 1) b1 d5) : Cont a b d a1 mid d5 := fun d' h1 h2 => by
  have hsz : d5.size = d4.size := hp.1
  refine h d' (Go.Sort.permIn_trans _ _ _ _ _ (Go.Sort.permIn_mono _ _ _ _ _ _ (by omega) (Nat.le_refl _) hb hp) (Go.Sort.permIn_mono _ _ _ _ _ _ (Nat.le_refl _) (by omega) (by omega) h1)) ?_
  have em : d'[mid]! = d4[mid]! := by rw [h1.2.1 mid (.inr (Nat.le_refl _)), hp.2.1 mid (.inl (by omega))]
  refine glue (mid := mid) (fun x hx1 hx2 => ?_) (fun x hx1 hx2 => ?_) h2 (fun i j hi hij hj => ?_)
  · rw [em]
    refine Go.Sort.permIn_all d5 d' a1 mid (fun y => y < d4[mid]!) (by omega) h1 (fun y hy1 hy2 => ?_) x hx1 hx2
    rw [hp.2.1 y (.inl (by omega))]
    exact hlo y hy1 hy2
  · rw [em, h1.2.1 x (.inr (by omega))]
    exact Go.Sort.permIn_all d4 d5 (mid + 1) b1 (fun y => d4[mid]! ≤ y) hb hp (fun y hy1 hy2 => hhi y (by omega) hy2) x (by omega) hx2
  · rw [h1.2.1 i (.inr (by omega)), h1.2.1 j (.inr (by omega))]
    exact hs i j hi hij hj
/-- what pdqsort leaves -/
def PdqDone (w0 : World) (base g cap : Nat) (d : Array Int) (a b : Nat) (e : Ending) (w' : World) : Prop := e = .returned (.tuple #[]) ∧ ∃ d', PermIn a b d d' ∧ SortedIn ltInt a b d' ∧ SRow w0 base g cap d' w'
/-- how far pdqsort has come -/
def PInv (w0 : World) (base g cap n : Nat) (d : Array Int) (a b a1 b1 : Nat) (dk : Array Int) (wr : World) : Prop :=
  dk.size = n ∧ SRow w0 base g cap dk wr ∧ Nd dk ∧ Bel a1 b1 dk ∧ Cont a b d a1 b1 dk ∧ b1 ≤ n ∧ a1 ≤ b1 ∧ b1 - a1 ≤ b - a
theorem PInv.mixed {w0 : World} {base g cap n : Nat} {d : Array Int} {a b a1 b1 : Nat} {dk : Array Int} {wr w' : World} (h : PInv w0 base g cap n d a b a1 b1 dk wr) (hm : Mixed w0 base g cap dk a1 b1 w') : ∃ d2, PInv w0 base g cap n d a b a1 b1 d2 w' := by
  obtain ⟨h1, h2, h3, h4, h5, h6, h7, h8⟩ := h
  obtain ⟨d2, hp, hr⟩ := hm
  exact ⟨d2, hp.1.trans h1, hr, h3.perm hp (by omega), h4.perm hp (by omega), h5.perm hp, h6, h7, h8⟩
theorem PInv.row {w0 : World} {base g cap n : Nat} {d : Array Int} {a b a1 b1 : Nat} {dk : Array Int} {wr w' : World} (h : PInv w0 base g cap n d a b a1 b1 dk wr) (hr : SRow w0 base g cap dk w') : PInv w0 base g cap n d a b a1 b1 dk w' := ⟨h.1, hr, h.2.2⟩

set_option maxRecDepth 100000 in
set_option maxRecDepth 100000 in
set_option maxHeartbeats 8000000 in
theorem pdq_any (base g cap : Nat) (w0 : World) : ∀ (m a b l : Nat) (d : Array Int) (w : World), b - a = m → SRow w0 base g cap d w → a ≤ b → b ≤ d.size → d.size < 50 → Nd d → Bel a b d → l ≤ 100 →
    Calls Tryd.prog 28 #[.slice (some ⟨g, 0, none⟩) d.size cap, .int .i64 a, .int .i64 b, .int .i64 l] w (PdqDone w0 base g cap d a b) := by
  intro m
  induction m using Nat.strongRecOn with
  | _ m ih =>
    intro a b l d w hm hR hab hb hsz hnd hbel hl
    obtain ⟨n, hn⟩ : ∃ n, d.size = n := ⟨_, rfl⟩
    have IH := hide ih
    have H0 : Hid (PInv w0 base g cap n d a b a b d w) := ⟨hn, hR, hnd, hbel, fun d' h1 h2 => ⟨h1, h2⟩, by omega, hab, Nat.le_refl _⟩
    have HM := hide hm
    rw [hn] at hb hsz ⊢
    clear hR hnd hbel hn ih hm
    go_enter Tryd.func28, Tryd.ntmps28
    go_wp2
    go_loopw [1, 2, 3, 8, 9] (fun va vb vl v8 v9 wr => ∃ (a1 b1 l1 : Nat) (B8 B9 : Bool) (dk : Array Int), va = .int .i64 a1 ∧ vb = .int .i64 b1 ∧ vl = .int .i64 l1 ∧ v8 = .bool B8 ∧ v9 = .bool B9 ∧ l1 ≤ 100 ∧ Hid (PInv w0 base g cap n d a b a1 b1 dk wr)) (fun va vb vl v8 v9 _ => (intOf vb - intOf va).toNat)
    case atStart => exact ⟨a, b, l, true, true, d, rfl, rfl, rfl, rfl, rfl, hl, H0⟩
    case round =>
      clear H0
      obtain ⟨a1, b1, l1, B8, B9, dk, rfl, rfl, rfl, rfl, rfl, hl1, hI⟩ := hrel
      obtain ⟨i1, i2, i3, i4, i5, i6, i7, i8⟩ := hI.out
      obtain ⟨L, hL⟩ : ∃ L, Hid (b1 - a1 = L) := ⟨_, rfl⟩
      have hba : (b1 : Int) - (a1 : Int) = (L : Int) := by have := hL.out; omega
      by_cases h12 : L ≤ 12
      · have h12i : (L : Int) ≤ 12 := by omega
        have HIN := hide (insertion_any base g cap a1 b1 dk w0 wr i2 i7 (by omega) (by omega))
        rw [i1] at HIN
        have HP := Go.Sort.insertionSort_holds (lt := ltInt) Go.Sort.swo_ltInt dk a1 b1 i7 (by omega)
        have HC := hide (i5 _ HP.1 HP.2)
        clear i1 i2 i3 i4 i5 HP
        go_wp2_with (go_at_call 39; refine HIN.out.mono ?_; rintro e w' ⟨rfl, hw⟩)
        refine bodyPost_ret (results_none rfl _ _ _) rfl ?_
        exact ⟨rfl, _, HC.out.1, HC.out.2, hw⟩
      · have h12i : ¬ (L : Int) ≤ 12 := by omega
        by_cases hl0 : l1 = 0
        · subst hl0
          have HIN := hide (heap_any base g cap a1 b1 dk w0 wr i2 (by have := hL.out; omega) (by omega) (by omega))
          rw [i1] at HIN
          have HP := Go.Sort.heapSort_holds (lt := ltInt) Go.Sort.swo_ltInt dk a1 b1 i7 (by omega)
          have HC := hide (i5 _ HP.1 HP.2)
          clear i1 i2 i3 i4 i5 HP
          go_wp2_with (go_at_call 40; refine HIN.out.mono ?_; rintro e w' ⟨rfl, hw⟩)
          refine bodyPost_ret (results_none rfl _ _ _) rfl ?_
          exact ⟨rfl, _, HC.out.1, HC.out.2, hw⟩
        · have hl0i : ((l1 : Int) == 0) = false := by simp; omega
          have HL12 := hide h12
          clear i1 i2 i3 i4 i5
          have hLL : Hid (b1 - a1 = L ∧ a1 + 13 ≤ b1 ∧ b1 ≤ n) := hide (by have := hL.out; omega)
          go_upto_if 35 with fail
          clear hba h12i hl0i i6 i8
          go_cut [3] from 19 to 133 (fun v wx => ∃ (l2 : Nat) (d2 : Array Int), v = .int .i64 (l2 : Int) ∧ l2 ≤ 100 ∧ Hid (PInv w0 base g cap n d a b a1 b1 d2 wx))
          case first =>
            cases B8
            · have HBR := hide (break_any base g cap a1 b1 dk w0 wr hI.out.2.1 (by have := hLL.out; omega) (by rw [hI.out.1]; exact hLL.out.2.2) (by rw [hI.out.1]; exact hsz))
              rw [hI.out.1] at HBR
              go_wp2_with (go_at_call 41; refine HBR.out.mono ?_; rintro e w' ⟨rfl, hmx⟩)
              obtain ⟨d2, hd2⟩ := hI.out.mixed hmx
              go_meet
              exact ⟨l1 - 1, d2, by congr 1; omega, by omega, hd2⟩
            · go_wp2
              go_meet
              exact ⟨l1, dk, rfl, hl1, hI⟩
          case rest =>
            obtain ⟨l2, d2, rfl, hl2, hI2⟩ := hcut
            have HCH := hide (choose_any base g cap a1 b1 d2 w0 wc hI2.out.2.1 (by have := hLL.out; omega) (by rw [hI2.out.1]; exact hLL.out.2.2) (by rw [hI2.out.1]; exact hsz))
            rw [hI2.out.1] at HCH
            go_wp2_with fail
            refine HCH.out.mono ?_
            rintro e w3 ⟨p, h, rfl, hp1, hp2, hR3⟩
            have HI3 := hide (hI2.out.row hR3)
            have Hp := hide (⟨hp1, hp2⟩ : a1 ≤ p ∧ p < b1)
            clear HCH hI2 hR3 hp1 hp2 hI
            go_upto_if 50 with fail
            go_cut [11, 12] from 51 to 133 (fun vp vh wx => ∃ (p2 : Nat) (h2 : Int) (d3 : Array Int), vp = .int .i64 (p2 : Int) ∧ vh = .int .i64 h2 ∧ Hid (a1 ≤ p2 ∧ p2 < b1 ∧ PInv w0 base g cap n d a b a1 b1 d3 wx))
            case first =>
              by_cases hh : h = 2
              · subst hh
                have HRV := hide (reverse_any base g cap a1 b1 d2 w0 w3 HI3.out.2.1 (by have := hLL.out; omega) (by rw [HI3.out.1]; exact hLL.out.2.2) (by rw [HI3.out.1]; omega))
                rw [HI3.out.1] at HRV
                have hq : Hid (∃ p2 : Nat, (b1 : Int) - 1 - ((p : Int) - (a1 : Int)) = (p2 : Int) ∧ a1 ≤ p2 ∧ p2 < b1) := hide ⟨b1 - 1 - (p - a1), by have := Hp.out; omega, by have := Hp.out; omega, by have := Hp.out; omega⟩
                obtain ⟨p2, hpe, hpa, hpb⟩ := hq.out
                have hb50 : b1 < 50 := by have := hLL.out; omega
                have hpb2 := Hp.out
                go_wp2_with (go_at_call 43; refine HRV.out.mono ?_; rintro e w' ⟨rfl, hmx⟩)
                obtain ⟨d3, hd3⟩ := HI3.out.mixed hmx
                go_meet
                exact ⟨p2, 1, d3, by congr 1, rfl, hide ⟨hpa, hpb, hd3⟩⟩
              · have hhb : (h == 2) = false := by simpa using hh
                go_wp2
                go_meet
                exact ⟨p, h, d2, rfl, rfl, hide ⟨Hp.out.1, Hp.out.2, HI3.out⟩⟩
            case rest =>
              obtain ⟨p2, h2, d3, rfl, rfl, hI4⟩ := hcut
              clear HI3 Hp
              go_upto_region 15 with fail
              go_cut [68] from 61 to 133 (fun v wx => ∃ c : Bool, v = .bool c ∧ wx = wc)
              case first =>
                by_cases hh : h2 = 1
                · subst hh
                  cases B8 <;> cases B9
                  all_goals
                    go_wp2
                    go_meet
                    exact ⟨_, rfl, rfl⟩
                · have hhb : (h2 == 1) = false := by simpa using hh
                  cases B8 <;> cases B9
                  all_goals
                    go_wp2
                    go_meet
                    exact ⟨_, rfl, rfl⟩
              case rest =>
                obtain ⟨c, rfl, hwc⟩ := hcut
                obtain rfl : _ = _ := hwc
                go_upto_if 68 with fail
                go_cut [] from 69 to 133 (fun wx => Hid (PInv w0 base g cap n d a b a1 b1 d3 wx))
                case first =>
                  cases c
                  · go_wp2
                    go_meet
                    exact hI4.out.2.2
                  · have HPI := hide (partialIns_any base g cap a1 b1 d3 w0 _ hI4.out.2.2.2.1 (by have := hLL.out; omega) (by rw [hI4.out.2.2.1]; exact hLL.out.2.2) (by rw [hI4.out.2.2.1]; exact hsz))
                    rw [hI4.out.2.2.1] at HPI
                    go_wp2_with fail
                    refine HPI.out.mono ?_
                    rintro e w5 ⟨r, rfl, hrs, hR5⟩
                    have HRS := hide hrs
                    have HR5 := hide hR5
                    clear hrs hR5
                    cases r
                    · go_wp2
                      go_meet
                      exact hI4.out.2.2.row HR5.out
                    · have HC := hide (hI4.out.2.2.2.2.2.2.1 d3 (Go.Sort.permIn_refl _ _ _) (HRS.out rfl))
                      go_wp2
                      refine bodyPost_ret (results_none rfl _ _ _) rfl ?_
                      exact ⟨rfl, d3, HC.out.1, HC.out.2, HR5.out⟩
                case rest =>
                  have HQ := hide (⟨hI4.out.1, hI4.out.2.1⟩ : a1 ≤ p2 ∧ p2 < b1)
                  have hI5 := hcut
                  clear hcut hI4
                  go_upto_region 17 with fail
                  go_cut [87] from 73 to 133 (fun v wx => v = .bool false ∧ Hid (PInv w0 base g cap n d a b a1 b1 d3 wx))
                  case first =>
                    obtain ⟨G, hG⟩ : ∃ G : Nat → Int, Hid (∀ t, G t = d3[t]!) := ⟨fun t => d3[t]!, fun _ => rfl⟩
                    have hcw : ∀ t, t < n → wc.cell? ⟨g, t, none⟩ = some (.int .u64 (G t)) := fun t ht => by
                      rw [hG.out]; exact hI5.out.2.1.cell t (by rw [hI5.out.1]; exact ht)
                    by_cases ha0 : a1 = 0
                    · have hd0 : decide ((0 : Int) < (a1 : Int)) = false := decide_eq_false (by omega)
                      go_quiet (first | (go_at_call 35; refine Calls.quiet_of_same (less_quiet _ _ _)))
                      go_wp2
                      go_meet
                      exact ⟨rfl, hI5.out.row (hI5.out.2.1.drewN _)⟩
                    · have hd0 : (0 : Int) < (a1 : Int) := by omega
                      have hp2n : p2 < n := by have := HQ.out; have := hLL.out; omega
                      have ha1n : a1 - 1 < n := by have := HQ.out; have := hLL.out; omega
                      have ha50 : a1 < 50 := by have := HQ.out; have := hLL.out; omega
                      have ha0' : 0 < a1 := by omega
                      have x1 : IntKind.i64.wrap ((a1 : Int) - 1) = ((a1 - 1 : Nat) : Int) := by rw [IntKind.wrap_i64]; omega
                      have hlt : Hid (ltInt (G (a1 - 1)) (G p2) = true) := by
                        rw [hG.out, hG.out]
                        rcases hI5.out.2.2.2.1 with h0 | h0
                        · exact absurd h0 ha0
                        · exact decide_eq_true (h0 p2 HQ.out.1 HQ.out.2)
                      go_quiet (first | (go_at_call 35; refine Calls.quiet_of_same (less_quiet _ _ _)))
                      rw [hlt.out]
                      go_wp2
                      go_meet
                      exact ⟨rfl, hI5.out.row (hI5.out.2.1.drewN _)⟩
                  case rest =>
                    obtain ⟨rfl, hI6⟩ := hcut
                    clear hI5
                    have HPT := hide (partition_any base g cap a1 b1 p2 d3 w0 wc hI6.out.2.1 HQ.out.1 HQ.out.2 (by rw [hI6.out.1]; exact hLL.out.2.2) (by rw [hI6.out.1]; omega))
                    rw [hI6.out.1] at HPT
                    go_wp2_with fail
                    refine HPT.out.mono ?_
                    rintro e w6 ⟨mid, r, d4, rfl, hm1, hm2, hp4, hR4, hlo, hhi⟩
                    have Hmid := hide (⟨hm1, hm2⟩ : a1 ≤ mid ∧ mid < b1)
                    have hd4 : d4.size = n := hp4.1.trans hI6.out.1
                    have hnd4 := hI6.out.2.2.1.perm hp4 (by rw [hI6.out.1]; exact hLL.out.2.2)
                    have hbe4 := hI6.out.2.2.2.1.perm hp4 (by rw [hI6.out.1]; exact hLL.out.2.2)
                    have hco4 := hI6.out.2.2.2.2.1.perm hp4
                    have hlen := hI6.out.2.2.2.2.2.2.2
                    have hbn := hLL.out.2.2
                    have HLFT : Hid (∀ w7, PdqDone w0 base g cap d4 a1 mid (.returned (.tuple #[])) w7 → ∃ d5, PInv w0 base g cap n d a b (mid + 1) b1 d5 w7) := fun w7 h7 => by
                      obtain ⟨_, d5, q1, q2, q3⟩ := h7
                      have hd5 : d5.size = n := q1.1.trans hd4
                      refine ⟨d5, hd5, q3, hnd4.perm q1 (by omega), .inr fun i h1 h2 => ?_, hco4.left hm1 hm2 (by omega) hlo hhi q1 q2, by omega, by omega, by omega⟩
                      rw [Nat.add_sub_cancel, q1.2.1 mid (.inr (Nat.le_refl _)), q1.2.1 i (.inr (by omega))]
                      have h3 := hhi i (by omega) h2
                      have h4 := hnd4.ne (i := mid) (j := i) (by omega) (by omega) (by omega)
                      omega
                    have HRGT : Hid (∀ w7, PdqDone w0 base g cap d4 (mid + 1) b1 (.returned (.tuple #[])) w7 → ∃ d5, PInv w0 base g cap n d a b a1 mid d5 w7) := fun w7 h7 => by
                      obtain ⟨_, d5, q1, q2, q3⟩ := h7
                      have hd5 : d5.size = n := q1.1.trans hd4
                      refine ⟨d5, hd5, q3, hnd4.perm q1 (by omega), ?_, hco4.right hm1 hm2 (by omega) hlo hhi q1 q2, by omega, by omega, by omega⟩
                      rcases hbe4 with h0 | h0
                      · exact .inl h0
                      · by_cases ha0 : a1 = 0
                        · exact .inl ha0
                        · refine .inr fun i h1 h2 => ?_
                          rw [q1.2.1 (a1 - 1) (.inl (by omega)), q1.2.1 i (.inl (by omega))]
                          exact h0 i h1 (by omega)
                    have HCL := hide (IH.out (mid - a1) (by have := HM.out; omega) a1 mid l2 d4 w6 rfl hR4 hm1 (by omega) (by omega) hnd4 (by
                      rcases hbe4 with h0 | h0
                      · exact .inl h0
                      · exact .inr fun i h1 h2 => h0 i h1 (by omega)) hl2)
                    have HCR := hide (IH.out (b1 - (mid + 1)) (by have := HM.out; omega) (mid + 1) b1 l2 d4 w6 rfl hR4 (by omega) (by omega) (by omega) hnd4 (.inr fun i h1 h2 => by
                      rw [Nat.add_sub_cancel]
                      have h3 := hhi i (by omega) h2
                      have h4 := hnd4.ne (i := mid) (j := i) (by omega) (by omega) (by omega)
                      omega) hl2)
                    rw [hd4] at HCL HCR
                    have hb50 : b1 < 50 := by omega
                    have hL50 : L < 50 := by have := hLL.out; omega
                    clear HPT hp4 hR4 hlo hhi hd4 hnd4 hbe4 hco4 hlen hbn hI6
                    go_upto_if 113 with fail
                    by_cases hlr : (mid : Int) - (a1 : Int) < (b1 : Int) - (mid : Int)
                    · go_wp2_with (go_at_call 28; refine HCL.out.mono ?_; rintro e w7 h7; obtain rfl := h7.1)
                      obtain ⟨d5, h5⟩ := HLFT.out w7 h7
                      go_roundw
                      case rel => exact ⟨mid + 1, b1, l2, _, r, d5, by go_num, rfl, rfl, rfl, rfl, hl2, h5⟩
                      case measure => simp [intOf]; omega
                    · have hm1i : ((mid + 1 : Nat) : Int) = (mid : Int) + 1 := by omega
                      rw [hm1i] at HCR
                      go_wp2_with (go_at_call 28; refine HCR.out.mono ?_; rintro e w7 h7; obtain rfl := h7.1)
                      obtain ⟨d5, h5⟩ := HRGT.out w7 h7
                      go_roundw
                      case rel => exact ⟨a1, mid, l2, _, r, d5, rfl, rfl, rfl, rfl, rfl, hl2, h5⟩
                      case measure => simp [intOf]; omega

theorem bitLen_fin : ∀ k : Fin 50, Lib.bitLen k.val ≤ 100 := by decide +kernel
theorem sorts49 : Sorts 49 := fun base v zs w h hnd hl => by
  rcases h.2 with ⟨rfl, h0⟩ | ⟨g, cap, cur, rfl, h1⟩
  · have : zs = [] := List.eq_nil_of_length_eq_zero h0
    subst this
    exact sort_none base w
  · have hR := SRow.start h
    have hp := fun l : Int => pdq_any base g cap w zs.length 0 zs.length (Lib.bitLen zs.length) zs.toArray w (by omega) hR (Nat.zero_le _) (by simp) (by simp; omega) (by simpa [Nd] using hnd) (.inl rfl) (bitLen_fin ⟨zs.length, by omega⟩)
    simp only [List.size_toArray] at hp
    refine (sort_of _ _ zs.length cap w (fun w' => ∃ d', PermIn 0 zs.length zs.toArray d' ∧ SortedIn ltInt 0 zs.length d' ∧ SRow w base g cap d' w') rfl (by omega) (fun l => hp l)).mono fun e w' h => ?_
    obtain ⟨rfl, d', q1, q2, q3⟩ := h
    exact q3.sorted q1 q2
end Go.Proofs.YtphahkjjmomjcaaDoor
