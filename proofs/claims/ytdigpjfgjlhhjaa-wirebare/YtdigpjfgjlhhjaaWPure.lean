/- Plain facts on reading: what was laid is read as it was. -/
import Derived.Test.YtdigpjfgjlhhjaaWDec

import Derived.Test.YtdigpjfgjlhhjaaWEnc

namespace Go.Proofs.Ytdigpjfgjlhhjaa

open Go.ChangeShapes Go.WideShapes Go.ChangeAt Go.RowKit

set_option linter.unusedVariables false

/-- from p on stand these numbers, and more -/
def Pre (bs : List Int) (p : Nat) (ns : List Int) : Prop := ∃ rest, bs.drop p = flat ns ++ rest
theorem Pre.left {bs : List Int} {p : Nat} {ns ms : List Int} (h : Pre bs p (ns ++ ms)) : Pre bs p ns := by
  obtain ⟨r, hr⟩ := h
  exact ⟨flat ms ++ r, by rw [hr, flat_append, List.append_assoc]⟩
theorem Pre.right {bs : List Int} {p : Nat} {ns ms : List Int} (h : Pre bs p (ns ++ ms)) : Pre bs (p + 8 * ns.length) ms := by
  obtain ⟨r, hr⟩ := h
  refine ⟨r, ?_⟩
  rw [← List.drop_drop, hr, flat_append, List.append_assoc, ← len_flat, List.drop_left]
theorem pre_num {bs : List Int} {p : Nat} {n : Int} {t : List Int} (h : Pre bs p (n :: t)) (hn : IsU64 n) : numAt bs p = some n := by
  obtain ⟨r, hr⟩ := h
  rw [flat_cons, List.append_assoc] at hr
  have hl : p + 8 ≤ bs.length := by
    have := congrArg List.length hr
    rw [List.length_drop, List.length_append, len_be8] at this
    omega
  rw [numAt, if_pos hl, hr, List.take_append_of_le_length (by rw [len_be8]; exact Nat.le_refl _), List.take_of_length_le (by rw [len_be8]; exact Nat.le_refl _), num_be8 n hn.1 hn.2]
theorem pre_tail {bs : List Int} {p : Nat} {n : Int} {t : List Int} (h : Pre bs p (n :: t)) : Pre bs (p + 8) t := Pre.right (ns := [n]) h
theorem small_pre {bs : List Int} {p : Nat} {n m : Int} {t : List Int} (h : Pre bs p (n :: t)) (hn : IsU64 n) (hm : n ≤ m) : rSmall bs m ⟨p, false⟩ = (n, ⟨p + 8, false⟩) := by
  simp [rSmall, pre_num h hn, hm]
theorem whole_pre {bs : List Int} {p : Nat} {n : Int} {t : List Int} (h : Pre bs p (n :: t)) (hn : IsU64 n) : rWhole bs ⟨p, false⟩ = (n, ⟨p + 8, false⟩) := by
  simp [rWhole, pre_num h hn]
theorem point_pre {bs : List Int} {p : Nat} {e r : Int} {t : List Int} (h : Pre bs p (e :: r :: t)) (he : IsU64 e) (hm : e ≤ 1099511627776) (hr : IsU64 r) : rPoint bs ⟨p, false⟩ = ((e, r), ⟨p + 16, false⟩) := by
  have h1 := small_pre h he hm
  have h2 := whole_pre (pre_tail h) hr
  simp [rPoint, h1, h2]
theorem who_pre {bs : List Int} : ∀ (l acc : List Int) (p : Nat) (t : List Int), Pre bs p (l ++ t) → (∀ x ∈ l, 0 ≤ x ∧ x ≤ 4095) → rWho bs l.length acc ⟨p, false⟩ = (acc ++ l, ⟨p + 8 * l.length, false⟩)
  | [], acc, p, t, _, _ => by simp [rWho]
  | x :: l, acc, p, t, h, hb => by
    have hx := hb x (by simp)
    have h1 : rSmall bs 4095 ⟨p, false⟩ = (x, ⟨p + 8, false⟩) := small_pre h ⟨hx.1, by omega⟩ hx.2
    rw [List.length_cons, rWho, h1]
    simp only [Bool.false_eq_true, if_false]
    rw [who_pre l (acc ++ [x]) (p + 8) t (pre_tail h) (fun y hy => hb y (by simp [hy]))]
    simp only [List.append_assoc, List.singleton_append, Prod.mk.injEq, St.mk.injEq, and_true, true_and]
    omega
theorem u64_id {x : Int} (h : 0 ≤ x ∧ x ≤ 9223372036854775807) : u64 x = x := by unfold u64; omega
theorem map_u64 (l : List Int) (h : ∀ x ∈ l, 0 ≤ x ∧ x < 4096) : l.map u64 = l := by
  have : l.map u64 = l.map id := List.map_congr_left fun x hx => by have := h x hx; exact u64_id ⟨this.1, by omega⟩
  simpa using this
theorem fitsB_of {v : Vt} (h : fitsB v = true) : (0 ≤ v.slot ∧ v.slot ≤ 1099511627776) ∧ (0 ≤ v.sE ∧ v.sE ≤ 1099511627776) ∧ (0 ≤ v.tE ∧ v.tE ≤ 1099511627776) ∧ v.who.length ≤ 4096 ∧ ∀ x ∈ v.who, 0 ≤ x ∧ x < 4096 := by
  simp only [fitsB, fits0, Bool.and_eq_true, decide_eq_true_eq, List.all_eq_true, inWho] at h
  exact ⟨h.1.1, h.1.2.1, h.1.2.2.1, h.1.2.2.2, h.2⟩
theorem voteNs_id {v : Vt} (h : fitsB v = true) : voteNs v = [v.slot, v.head, v.sE, v.sR, v.tE, v.tR, (v.who.length : Int)] ++ v.who := by
  obtain ⟨h1, h2, h3, h4, h5⟩ := fitsB_of h
  rw [voteNs, u64_id ⟨h1.1, by omega⟩, u64_id ⟨h2.1, by omega⟩, u64_id ⟨h3.1, by omega⟩, map_u64 _ h5]
theorem vote_pre {bs : List Int} {p : Nat} {v : Vt} {t : List Int} (h : Pre bs p (voteNs v ++ t)) (hf : fitsB v = true) (hw : v.Wf) : rVote bs ⟨p, false⟩ = (v, ⟨p + 8 * (voteNs v).length, false⟩) := by
  obtain ⟨h1, h2, h3, h4, h5⟩ := fitsB_of hf
  obtain ⟨_, w2, _, w4, _, w6, _⟩ := hw
  have hl : (voteNs v).length = 7 + v.who.length := voteNs_len v
  rw [voteNs_id hf, List.append_assoc] at h
  have e1 := small_pre (m := 1099511627776) h ⟨h1.1, by omega⟩ h1.2
  have p1 := pre_tail h
  have e2 := whole_pre p1 w2
  have p2 := pre_tail p1
  have e3 := point_pre p2 ⟨h2.1, by omega⟩ h2.2 w4
  have p3 := pre_tail (pre_tail p2)
  have e4 := point_pre p3 ⟨h3.1, by omega⟩ h3.2 w6
  have p4 := pre_tail (pre_tail p3)
  have e5 := small_pre (m := 4096) p4 ⟨by omega, by omega⟩ (by omega)
  have p5 := pre_tail p4
  have e6 := who_pre v.who [] _ t p5 (fun x hx => by have := h5 x hx; omega)
  unfold rVote
  simp only [e1, e2, e3, e4, e5, Int.toNat_natCast, e6, List.nil_append]
  refine Prod.ext rfl ?_
  show St.mk _ _ = St.mk _ _
  rw [hl]
  congr 1
  omega
theorem proof_pre {bs : List Int} {p : Nat} {x : Pf} {t : List Int} (h : Pre bs p (pfNs x ++ t)) (hf : pfB x = true) (ha : x.a.Wf) (hb : x.b.Wf) : rProof bs ⟨p, false⟩ = (x, ⟨p + 8 * (pfNs x).length, false⟩) := by
  rw [pfB, Bool.and_eq_true] at hf
  rw [pfNs, List.append_assoc] at h
  have e1 := vote_pre h hf.1 ha
  have e2 := vote_pre h.right hf.2 hb
  unfold rProof
  simp only [e1, e2]
  refine Prod.ext rfl ?_
  show St.mk _ _ = St.mk _ _
  rw [pfNs, List.length_append]
  congr 1
  omega
theorem votes_pre {bs : List Int} : ∀ (l acc : List Vt) (p : Nat) (t : List Int), Pre bs p (l.flatMap voteNs ++ t) → (∀ x ∈ l, fitsB x = true ∧ x.Wf) → rVotes bs l.length acc ⟨p, false⟩ = (acc ++ l, ⟨p + 8 * (l.flatMap voteNs).length, false⟩)
  | [], acc, p, t, _, _ => by simp [rVotes]
  | x :: l, acc, p, t, h, hb => by
    have hx := hb x (by simp)
    rw [List.flatMap_cons, List.append_assoc] at h
    have h1 := vote_pre h hx.1 hx.2
    rw [List.length_cons, rVotes, h1]
    simp only
    rw [votes_pre l (acc ++ [x]) _ t h.right (fun y hy => hb y (by simp [hy]))]
    refine Prod.ext (by simp) ?_
    show St.mk _ _ = St.mk _ _
    rw [List.flatMap_cons, List.length_append]
    congr 1
    omega
theorem proofs_pre {bs : List Int} : ∀ (l acc : List Pf) (p : Nat) (t : List Int), Pre bs p (l.flatMap pfNs ++ t) → (∀ x ∈ l, pfB x = true ∧ x.a.Wf ∧ x.b.Wf) → rProofs bs l.length acc ⟨p, false⟩ = (acc ++ l, ⟨p + 8 * (l.flatMap pfNs).length, false⟩)
  | [], acc, p, t, _, _ => by simp [rProofs]
  | x :: l, acc, p, t, h, hb => by
    have hx := hb x (by simp)
    rw [List.flatMap_cons, List.append_assoc] at h
    have h1 := proof_pre h hx.1 hx.2.1 hx.2.2
    rw [List.length_cons, rProofs, h1]
    simp only
    rw [proofs_pre l (acc ++ [x]) _ t h.right (fun y hy => hb y (by simp [hy]))]
    refine Prod.ext (by simp) ?_
    show St.mk _ _ = St.mk _ _
    rw [List.flatMap_cons, List.length_append]
    congr 1
    omega
/-- numbers fit their types -/
def Bk.Wf (b : Bk) : Prop := (IsU64 b.root ∧ IsU64 b.parent ∧ IsI64 b.slot) ∧ (∀ v ∈ b.votes, v.Wf) ∧ ∀ p ∈ b.proofs, p.a.Wf ∧ p.b.Wf
def Ev.Wf (e : Ev) : Prop := (IsI64 e.kind ∧ IsI64 e.slot) ∧ e.block.Wf ∧ e.vote.Wf ∧ e.proof.a.Wf ∧ e.proof.b.Wf
theorem BlockC.wf {w : World} {cs : List Value} {b : Bk} (h : BlockC w cs b) : b.Wf := by
  obtain ⟨hw, ao, l, c, ao2, l2, c2, rfl, h1, h2⟩ := h
  refine ⟨hw, fun v hv => ?_, fun p hp => ?_⟩
  · obtain ⟨cs, hc⟩ := rows_mem h1 v hv
    exact hc.1
  · obtain ⟨cs, x, y, _, ha, hb⟩ := rows_mem h2 p hp
    exact ⟨ha.1, hb.1⟩
theorem EventC.wf {w : World} {cs : List Value} {e : Ev} (h : EventC w cs e) : e.Wf := by
  obtain ⟨hw, x, y, z, rfl, h1, h2, a, b, _, h3, h4⟩ := h
  exact ⟨hw, h1.wf, h2.1, h3.1, h4.1⟩
theorem bkB_all {b : Bk} (h : bkB b = true) : (0 ≤ b.slot ∧ b.slot ≤ 1099511627776) ∧ b.votes.length ≤ 16 ∧ b.proofs.length ≤ 16 ∧ (∀ v ∈ b.votes, fitsB v = true) ∧ ∀ p ∈ b.proofs, pfB p = true := by
  simp only [bkB, bk0, Bool.and_eq_true, decide_eq_true_eq, List.all_eq_true] at h
  exact ⟨h.1.1.1, h.1.1.2.1, h.1.1.2.2, h.1.2, h.2⟩
theorem block_pre {bs : List Int} {p : Nat} {b : Bk} {t : List Int} (h : Pre bs p (bkNs b ++ t)) (hf : bkB b = true) (hw : b.Wf) : rBlock bs ⟨p, false⟩ = (b, ⟨p + 8 * (bkNs b).length, false⟩) := by
  obtain ⟨h1, h2, h3, h4, h5⟩ := bkB_all hf
  obtain ⟨⟨w1, w2, _⟩, w4, w5⟩ := hw
  have hl : (bkNs b).length = 5 + ((b.votes.flatMap voteNs).length + (b.proofs.flatMap pfNs).length) := by rw [bkNs, List.length_append, List.length_append]; simp only [List.length_cons, List.length_nil]; omega
  have hb : bkNs b = [b.root, b.parent, b.slot, (b.votes.length : Int), (b.proofs.length : Int)] ++ b.votes.flatMap voteNs ++ b.proofs.flatMap pfNs := by rw [bkNs, u64_id ⟨h1.1, by omega⟩]
  rw [hb, List.append_assoc, List.append_assoc] at h
  have e1 := whole_pre h w1
  have p1 := pre_tail h
  have e2 := whole_pre p1 w2
  have p2 := pre_tail p1
  have e3 := small_pre (m := 1099511627776) p2 ⟨h1.1, by omega⟩ h1.2
  have p3 := pre_tail p2
  have e4 := small_pre (m := 16) p3 ⟨by omega, by omega⟩ (by omega)
  have p4 := pre_tail p3
  have e5 := small_pre (m := 16) p4 ⟨by omega, by omega⟩ (by omega)
  have p5 := pre_tail p4
  have e6 := votes_pre b.votes [] _ _ p5 (fun v hv => ⟨h4 v hv, w4 v hv⟩)
  have p6 := Pre.right (ns := b.votes.flatMap voteNs) p5
  have e7 := proofs_pre b.proofs [] _ _ p6 (fun x hx => ⟨h5 x hx, w5 x hx⟩)
  unfold rBlock
  simp only [e1, e2, e3, e4, e5, Int.toNat_natCast, e6, e7, List.nil_append]
  refine Prod.ext rfl ?_
  show St.mk _ _ = St.mk _ _
  rw [hl]
  congr 1
  omega
/-- what counts of an event -/
def bareE (e : Ev) : Ev := if e.kind = 0 then ⟨0, e.slot, bkZ, vtZ, pfZ⟩ else if e.kind = 1 then ⟨1, 0, e.block, vtZ, pfZ⟩ else if e.kind = 2 then ⟨2, 0, bkZ, e.vote, pfZ⟩ else ⟨3, 0, bkZ, vtZ, e.proof⟩
theorem event_pre {bs : List Int} {p : Nat} {e : Ev} {t : List Int} (h : Pre bs p (evNs e ++ t)) (hf : evB e = true) (hw : e.Wf) : rEvent bs ⟨p, false⟩ = (bareE e, ⟨p + 8 * (evNs e).length, false⟩) := by
  obtain ⟨kd, es, bk, vt, pf⟩ := e
  obtain ⟨_, w1, w2, w3, w4⟩ := hw
  by_cases k0 : kd = 0
  · subst k0
    have hs : inSlot es = true := hf
    simp only [inSlot, decide_eq_true_eq] at hs
    have hn : evNs ⟨0, es, bk, vt, pf⟩ = [0, es] := by show [u64 0, u64 es] = _; rw [u64_id ⟨hs.1, by omega⟩]; rfl
    rw [hn] at h
    have e1 := small_pre (m := 3) h ⟨by omega, by omega⟩ (by omega)
    have e2 := small_pre (m := 1099511627776) (pre_tail h) ⟨hs.1, by omega⟩ hs.2
    unfold rEvent
    simp only [e1, e2, if_true, hn]
    rfl
  by_cases k2 : kd = 2
  · subst k2
    have hn : evNs ⟨2, es, bk, vt, pf⟩ = 2 :: voteNs vt := rfl
    rw [hn] at h
    have e1 := small_pre (m := 3) h ⟨by omega, by omega⟩ (by omega)
    have e2 := vote_pre (pre_tail h) hf w2
    unfold rEvent
    simp only [e1, e2, hn]
    refine Prod.ext rfl ?_
    show St.mk _ _ = St.mk _ _
    rw [List.length_cons]
    congr 1
    omega
  by_cases k3 : kd = 3
  · subst k3
    have hn : evNs ⟨3, es, bk, vt, pf⟩ = 3 :: pfNs pf := rfl
    rw [hn] at h
    have e1 := small_pre (m := 3) h ⟨by omega, by omega⟩ (by omega)
    have e2 := proof_pre (pre_tail h) hf w3 w4
    unfold rEvent
    simp only [e1, e2, hn]
    refine Prod.ext rfl ?_
    show St.mk _ _ = St.mk _ _
    rw [List.length_cons]
    congr 1
    omega
  by_cases k1 : kd = 1
  · subst k1
    have hn : evNs ⟨1, es, bk, vt, pf⟩ = 1 :: bkNs bk := rfl
    rw [hn] at h
    have e1 := small_pre (m := 3) h ⟨by omega, by omega⟩ (by omega)
    have e2 := block_pre (pre_tail h) hf w1
    unfold rEvent
    simp only [e1, e2, hn]
    refine Prod.ext rfl ?_
    show St.mk _ _ = St.mk _ _
    rw [List.length_cons]
    congr 1
    omega
  simp [evB, k0, k1, k2, k3] at hf
theorem evNs_pos (e : Ev) : 0 < (evNs e).length := by rw [evNs, List.length_cons]; omega
theorem bytes8_flat {ns : List Int} (h : ∀ n ∈ ns, IsU64 n) : Bytes8 (flat ns) := by
  intro z hz
  rw [flat] at hz
  obtain ⟨n, hn, hz⟩ := List.mem_flatMap.1 hz
  exact bytes_be8 n (h n hn).1 (h n hn).2 z hz
theorem bytes8_of {es : List Ev} (h : ∀ e ∈ es, evB e = true ∧ e.Wf) (hn : ∀ e ∈ es, ∀ n ∈ evNs e, IsU64 n) : Bytes8 (bytesOf es) := by
  rw [bytesOf_flat]
  refine bytes8_flat fun n hn' => ?_
  obtain ⟨e, he, hn'⟩ := List.mem_flatMap.1 hn'
  exact hn e he n hn'
/-- ticks -/
theorem tick_ok {s : Int} (h : 0 ≤ s ∧ s ≤ 4294967295) : evB (tick s) = true ∧ (tick s).Wf := by
  refine ⟨?_, EventC.wf (tickC default s ⟨by omega, by omega⟩)⟩
  show inSlot s = true
  exact decide_eq_true (by omega)
theorem tick_ns {s : Int} (h : 0 ≤ s ∧ s ≤ 4294967295) : evNs (tick s) = [0, s] := by
  show [u64 0, u64 s] = _
  rw [u64_id ⟨h.1, by omega⟩]
  rfl
theorem ticks_len : ∀ (l : List Int), (∀ s ∈ l, 0 ≤ s ∧ s ≤ 4294967295) → (bytesOf (l.map tick)).length = 16 * l.length
  | [], _ => rfl
  | s :: l, h => by
    have h1 := ticks_len l (fun x hx => h x (by simp [hx]))
    show (evBytes (tick s) ++ bytesOf (l.map tick)).length = _
    rw [List.length_append, h1, evBytes, len_flat, tick_ns (h s (by simp))]
    simp only [List.length_cons, List.length_nil]
    omega
theorem bare_ticks (l : List Int) : (l.map tick).map bareE = l.map tick := by
  rw [List.map_map]
  exact List.map_congr_left fun s _ => rfl
/-- events' bytes are read as what counts of them -/
theorem dec_pre {bs : List Int} : ∀ (es acc : List Ev) (k p : Nat), bs.drop p = bytesOf es → p ≤ bs.length → es.length ≤ k → (∀ e ∈ es, evB e = true ∧ e.Wf) → rDec bs k acc ⟨p, false⟩ = (acc ++ es.map bareE, bs.length, false)
  | [], acc, k, p, h, hp, hk, _ => by
    have hl : ¬ p < bs.length := by
      have := congrArg List.length h
      rw [List.length_drop] at this
      simp only [bytesOf, List.flatMap_nil, List.length_nil] at this
      omega
    have : p = bs.length := by omega
    cases k with
    | zero => show (if p < bs.length then _ else _) = _; rw [if_neg hl]; simp [this]
    | succ k => show (if p < bs.length then _ else _) = _; rw [if_neg hl]; simp [this]
  | e :: es, acc, 0, p, h, hp, hk, _ => by simp at hk
  | e :: es, acc, k + 1, p, h, hp, hk, hb => by
    have he := hb e (by simp)
    have hd : bs.drop p = flat (evNs e) ++ bytesOf es := h
    have hpos := evNs_pos e
    have hlen := congrArg List.length hd
    rw [List.length_drop, List.length_append, len_flat] at hlen
    have h1 := event_pre (t := []) (bs := bs) (p := p) ⟨bytesOf es, by rw [List.append_nil]; exact hd⟩ he.1 he.2
    show (if p < bs.length then _ else _) = _
    rw [if_pos (by omega), h1]
    simp only [Bool.false_eq_true, if_false]
    rw [dec_pre es (acc ++ [bareE e]) k _ (by rw [← List.drop_drop, hd, ← len_flat, List.drop_left]) (by omega) (by simpa using hk) (fun y hy => hb y (by simp [hy]))]
    simp
end Go.Proofs.Ytdigpjfgjlhhjaa
