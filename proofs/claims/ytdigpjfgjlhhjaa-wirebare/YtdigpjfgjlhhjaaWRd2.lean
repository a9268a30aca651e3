/- Contracts of wire's reader: whole, small, point. -/
import Derived.Test.YtdigpjfgjlhhjaaWStore

namespace Go.Proofs.Ytdigpjfgjlhhjaa

open Go.ChangeShapes Go.WideShapes Go.ChangeAt Go.RowKit

set_option linter.unusedVariables false

theorem rWhole_bad {bs : List Int} {s : St} (h : s.bad = true) : rWhole bs s = (0, s) := by rw [rWhole, if_pos h]
theorem rSmall_bad {bs : List Int} {m : Int} {s : St} (h : s.bad = true) : rSmall bs m s = (0, s) := by rw [rSmall, if_pos h]
theorem rSmall_pos {bs : List Int} {m : Int} {s : St} (h : s.pos ≤ bs.length) : (rSmall bs m s).2.pos ≤ bs.length := by
  unfold rSmall numAt
  repeat' split
  all_goals simp_all
theorem rWhole_pos {bs : List Int} {s : St} (h : s.pos ≤ bs.length) : (rWhole bs s).2.pos ≤ bs.length := by
  unfold rWhole numAt
  repeat' split
  all_goals simp_all

theorem Rd.frozen {r : Nat} {w : World} {ab : Option Addr} {n c : Nat} {bs : List Int} {s : St} (h : Rd r w ab n c bs s) (i : Nat) : w.frozen? ⟨r, i, none⟩ = false := by
  unfold World.frozen?
  rw [h.obj]
  simp

/-- as octet's Get answers -/
theorem get_st (bs : List Int) (ab : Option Addr) (n c p : Nat) (w : World) (h : RowIn .u8 w ab n c bs) (h8 : Bytes8 bs) (hp : p ≤ n) :
    Calls Try.prog 35 #[.slice ab n c, .int .i64 (p : Int)] w fun e w' => e = .returned (match (rWhole bs ⟨p, false⟩) with | (v, s) => .tuple #[.int .u64 v, .int .i64 (s.pos : Int), .bool (!s.bad)]) ∧ w' = w := by
  have hg := get_any bs ab n c p w h h8 hp
  unfold rWhole
  simp only [Bool.false_eq_true, if_false]
  cases hn : numAt bs p with
  | none => rw [hn] at hg; exact hg
  | some v => rw [hn] at hg; exact_mod_cast hg

set_option maxHeartbeats 1000000 in
theorem rdSmall_any (r : Nat) (ab : Option Addr) (n c : Nat) (bs : List Int) (s : St) (m : Int) (w : World) (h : Rd r w ab n c bs s) (hm : 0 ≤ m ∧ m ≤ 9223372036854775807) :
    Calls Try.prog 25 #[.pointer (some ⟨r, 0, none⟩), .int .i64 m] w fun e w' => e = .returned (.int .i64 (rSmall bs m s).1) ∧ Rd r w' ab n c bs (rSmall bs m s).2 ∧ Apart r w w' := by
  obtain ⟨q1, q2, q3⟩ := h.cells
  have H := hide h
  obtain ⟨p, bad⟩ := s
  cases bad
  case true =>
    have hb : rSmall bs m ⟨p, true⟩ = (0, ⟨p, true⟩) := rfl
    rw [hb]
    clear h hb
    go_enter Try.func25, Try.ntmps25
    go_wp2
    go_ret
    exact ⟨rfl, H.out, Apart.refl _ _⟩
  case false =>
    have hlen := h.row.len
    have hpos := rSmall_pos (bs := bs) (m := m) (s := ⟨p, false⟩) (by rw [hlen]; exact h.pos)
    have hS := hide (small_any bs ab n c p m w.drew h.drew.row.unhole h.b8 h.pos hm)
    have hC : Hid (rSmall bs m ⟨p, false⟩ = rSmall bs m ⟨p, false⟩) := rfl
    obtain ⟨R, hR⟩ : ∃ x, Hid (rSmall bs m ⟨p, false⟩ = x) := ⟨_, rfl⟩
    rw [hR.out] at hS hpos ⊢
    obtain ⟨v, p', b'⟩ := R
    dsimp only at hS hpos ⊢
    rw [hlen] at hpos
    have fz1 := h.frozen 1
    have fz2 := h.frozen 2
    clear h hC
    go_enter Try.func25, Try.ntmps25
    go_wp2
    go_region_held3 (fun w' => w'.cell? ⟨r, 0, none⟩ = some (.slice ab n c) ∧ w'.cell? ⟨r, 1, none⟩ = some (.int .i64 (p : Int)) ∧ w'.cell? ⟨r, 2, none⟩ = some (.bool false))
      (first
        | exact H.out.drew.cells
        | go_keep)
      (first
        | (go_at_call 32
           refine hS.out.mono ?_
           rintro e w1 ⟨rfl, hw⟩
           obtain rfl : _ = w1 := hw.symm))
    go_wp2
    go_ret
    exact ⟨rfl, H.out.drew.step p' b' hpos, (((Apart.refl r w).drew.set 1 _).set 2 _)⟩

set_option maxHeartbeats 1000000 in
theorem rdWhole_any (r : Nat) (ab : Option Addr) (n c : Nat) (bs : List Int) (s : St) (w : World) (h : Rd r w ab n c bs s) :
    Calls Try.prog 33 #[.pointer (some ⟨r, 0, none⟩)] w fun e w' => e = .returned (.int .u64 (rWhole bs s).1) ∧ Rd r w' ab n c bs (rWhole bs s).2 ∧ Apart r w w' := by
  obtain ⟨q1, q2, q3⟩ := h.cells
  have H := hide h
  obtain ⟨p, bad⟩ := s
  cases bad
  case true =>
    have hb : rWhole bs ⟨p, true⟩ = (0, ⟨p, true⟩) := rfl
    rw [hb]
    clear h hb
    go_enter Try.func33, Try.ntmps33
    go_wp2
    go_ret
    exact ⟨rfl, H.out, Apart.refl _ _⟩
  case false =>
    have hlen := h.row.len
    have hpos := rWhole_pos (bs := bs) (s := ⟨p, false⟩) (by rw [hlen]; exact h.pos)
    have hS := hide (get_st bs ab n c p w.drew h.drew.row.unhole h.b8 h.pos)
    have hC : Hid (rWhole bs ⟨p, false⟩ = rWhole bs ⟨p, false⟩) := rfl
    obtain ⟨R, hR⟩ : ∃ x, Hid (rWhole bs ⟨p, false⟩ = x) := ⟨_, rfl⟩
    rw [hR.out] at hS hpos ⊢
    obtain ⟨v, p', b'⟩ := R
    dsimp only at hS hpos ⊢
    rw [hlen] at hpos
    have fz1 := h.frozen 1
    have fz2 := h.frozen 2
    clear h hC
    go_enter Try.func33, Try.ntmps33
    go_wp2
    go_region_held3 (fun w' => w'.cell? ⟨r, 0, none⟩ = some (.slice ab n c) ∧ w'.cell? ⟨r, 1, none⟩ = some (.int .i64 (p : Int)) ∧ w'.cell? ⟨r, 2, none⟩ = some (.bool false))
      (first
        | exact H.out.drew.cells
        | go_keep)
      (first
        | (go_at_call 35
           refine hS.out.mono ?_
           rintro e w1 ⟨rfl, hw⟩
           obtain rfl : _ = w1 := hw.symm))
    go_wp2
    go_ret
    exact ⟨rfl, H.out.drew.step p' b' hpos, (((Apart.refl r w).drew.set 1 _).set 2 _)⟩

def rPoint (bs : List Int) (s : St) : (Int × Int) × St := (((rSmall bs 1099511627776 s).1, (rWhole bs (rSmall bs 1099511627776 s).2).1), (rWhole bs (rSmall bs 1099511627776 s).2).2)
set_option maxHeartbeats 1000000 in
theorem rdPoint_any (r : Nat) (ab : Option Addr) (n c : Nat) (bs : List Int) (s : St) (w : World) (h : Rd r w ab n c bs s) :
    Calls Try.prog 34 #[.pointer (some ⟨r, 0, none⟩)] w fun e w' => e = .returned (.agg #[.int .i64 (rPoint bs s).1.1, .int .u64 (rPoint bs s).1.2]) ∧ Rd r w' ab n c bs (rPoint bs s).2 ∧ Apart r w w' := by
  have H := hide h
  have h1 := hide (rdSmall_any r ab n c bs s 1099511627776 _ (h.alloc (.cells #[.int .i64 0, .int .u64 0] 31)) (by omega))
  obtain ⟨s1, hs1⟩ : ∃ x, Hid (rSmall bs 1099511627776 s = x) := ⟨_, rfl⟩
  have hp : Hid (rPoint bs s = ((s1.1, (rWhole bs s1.2).1), (rWhole bs s1.2).2)) := show _ = _ by rw [← hs1.out]; rfl
  rw [hs1.out] at h1
  rw [hp.out]
  clear h
  go_enter Try.func34, Try.ntmps34
  go_wp2_with fail
  refine h1.out.mono ?_
  rintro e w1 ⟨rfl, hr1, hA1⟩
  have R1 := hide hr1
  have A1 := hide hA1
  have hx1 := (hA1.block w.heap.size (by simp) (Nat.ne_of_gt H.out.lt)).trans (heap_alloc_new _ _)
  have X1 := hide hx1
  clear hr1 hA1 hx1
  go_wp2_with fail
  refine (rdWhole_any r ab n c bs s1.2 _ R1.out).mono ?_
  rintro e w2 ⟨rfl, hr2, hA2⟩
  have hs12 := A1.out.size
  have hx2 := (hA2.block w.heap.size (by simp at hs12; omega) (Nat.ne_of_gt H.out.lt)).trans X1.out
  obtain ⟨w3, hrun, hx3, hA3⟩ := store_obj (P := Try.prog) (cs := [.int .i64 s1.1, .int .u64 (rWhole bs s1.2).1]) infoPt rfl rfl (by simp [Value.oneCell']) hx2
  have RUN := hide hrun
  have A3 : Hid (Apart r w w3) := (((Apart.refl r w).alloc _).trans (A1.out.trans hA2)).inner hA3 (Nat.le_refl _) (Nat.ne_of_gt H.out.lt)
  have R3 := hide (hr2.apart hA3 H.out (Nat.le_refl _))
  have X3 := hide hx3
  clear hrun hA3 hx2 hx3 hr2 hA2 R1 A1 X1
  go_wp2_with (refine wpList_store_at 31 (.tmp 2) (.tmp 7) rfl rfl (.pointer (some ⟨w.heap.size, 0, none⟩)) (.agg _) rfl rfl _ RUN.out ?_)
  refine ret_struct rfl rfl X3.out Try.underlying31 infoPt rfl ⟨rfl, R3.out, A3.out⟩
end Go.Proofs.Ytdigpjfgjlhhjaa
