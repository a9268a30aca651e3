/- Plain facts on reading any bytes: what is read without fault is laid as the very bytes that were read; the place is one of theirs, a multiple of 8. -/
import Derived.Test.YtpmldjcfmclkkaaDoorWPure

import Derived.Test.YtpmldjcfmclkkaaDoorWCutP

namespace Go.Proofs.YtpmldjcfmclkkaaDoor

open Go.ChangeShapes Go.WideShapes Go.ChangeAt Go.RowKit

set_option linter.unusedVariables false

/-- a reading of b: where it is without fault R holds of what was read and the numbers that were read; the place stays within, a multiple of 8 -/
structure Sd {α : Type} (b : List Int) (F : St → α × St) (R : α → List Int → Prop) : Prop where
  pos : ∀ s, s.pos ≤ b.length → s.pos % 8 = 0 → (F s).2.pos ≤ b.length ∧ (F s).2.pos % 8 = 0
  bad : ∀ s, s.bad = true → (F s).2 = s
  good : ∀ p q x, F ⟨p, false⟩ = (x, ⟨q, false⟩) → ∃ ns, R x ns ∧ q = p + 8 * ns.length ∧ Pre b p ns
theorem Pre.append {b : List Int} {p : Nat} {ns ms : List Int} (h1 : Pre b p ns) (h2 : Pre b (p + 8 * ns.length) ms) : Pre b p (ns ++ ms) := by
  obtain ⟨r1, e1⟩ := h1
  obtain ⟨r2, e2⟩ := h2
  refine ⟨r2, ?_⟩
  rw [← List.drop_drop, e1, ← len_flat, List.drop_left] at e2
  rw [e1, e2, ← List.append_assoc]
  congr 1
  simp [flat]
section

variable {α β : Type} {b : List Int}
theorem Sd.pure (x : α) {R : α → List Int → Prop} (h : R x []) : Sd b (fun s => (x, s)) R :=
  ⟨fun s h1 h2 => ⟨h1, h2⟩, fun s _ => rfl, fun p q y e => by
    simp only [Prod.mk.injEq, St.mk.injEq, and_true] at e
    obtain ⟨rfl, rfl⟩ := e
    exact ⟨[], h, rfl, ⟨b.drop p, rfl⟩⟩⟩
theorem Sd.mono {F : St → α × St} {R R' : α → List Int → Prop} (h : Sd b F R) (hR : ∀ x ns, R x ns → R' x ns) : Sd b F R' :=
  ⟨h.pos, h.bad, fun p q x e => by obtain ⟨ns, h1, h2⟩ := h.good p q x e; exact ⟨ns, hR _ _ h1, h2⟩⟩
theorem Sd.seq {F : St → α × St} {G : α → St → β × St} {R : α → List Int → Prop} {Q : α → β → List Int → Prop} (hF : Sd b F R) (hG : ∀ x, Sd b (G x) (Q x)) :
    Sd b (fun s => G (F s).1 (F s).2) (fun y ns => ∃ x n1 n2, R x n1 ∧ Q x y n2 ∧ ns = n1 ++ n2) := by
  refine ⟨fun s h1 h2 => ?_, fun s hs => ?_, fun p q y e => ?_⟩
  · obtain ⟨a1, a2⟩ := hF.pos s h1 h2
    exact (hG _).pos _ a1 a2
  · have h1 := hF.bad s hs
    show (G (F s).1 (F s).2).2 = s
    rw [h1]
    exact (hG _).bad s hs
  · obtain ⟨x, s1, hx⟩ : ∃ x s1, F ⟨p, false⟩ = (x, s1) := ⟨_, _, rfl⟩
    rw [hx] at e
    dsimp only at e
    obtain ⟨q1, bd⟩ := s1
    cases bd
    · obtain ⟨n1, a1, a2, a3⟩ := hF.good p q1 x hx
      obtain ⟨n2, b1, b2, b3⟩ := (hG x).good q1 q y e
      subst a2
      exact ⟨n1 ++ n2, ⟨x, n1, n2, a1, b1, rfl⟩, by rw [b2, List.length_append]; omega, a3.append b3⟩
    · have := (hG x).bad ⟨q1, true⟩ rfl
      rw [e] at this
      simp at this
end
theorem be8_num : ∀ (zs : List Int), zs.length = 8 → Bytes8 zs → be8 (num zs) = zs
  | [a, b, c, d, e, f, g, h], _, hb => by
    have ha := hb a (by simp)
    have hb' := hb b (by simp)
    have hc := hb c (by simp)
    have hd := hb d (by simp)
    have he := hb e (by simp)
    have hf := hb f (by simp)
    have hg := hb g (by simp)
    have hh := hb h (by simp)
    simp only [num, List.foldl, be8]
    simp only [List.cons.injEq, and_true]
    refine ⟨by omega, by omega, by omega, by omega, by omega, by omega, by omega, by omega⟩
theorem numAt_pre {b : List Int} (h8 : Bytes8 b) {p : Nat} {v : Int} (h : numAt b p = some v) : p + 8 ≤ b.length ∧ Pre b p [v] := by
  unfold numAt at h
  split at h
  · rename_i hl
    cases h
    refine ⟨hl, (b.drop p).drop 8, ?_⟩
    have e : flat [num ((b.drop p).take 8)] = (b.drop p).take 8 := by
      rw [flat_cons, be8_num _ (by simp; omega) (fun z hz => h8 z (List.mem_of_mem_drop (List.mem_of_mem_take hz)))]
      simp [flat]
    rw [e, List.take_append_drop]
  · cases h
theorem sd_small {b : List Int} (h8 : Bytes8 b) (m : Int) : Sd b (rSmall b m) (fun v ns => ns = [v] ∧ 0 ≤ v ∧ v ≤ m) := by
  refine ⟨fun s h1 h2 => ?_, fun s hs => by simp [rSmall, hs], fun p q x h => ?_⟩
  · unfold rSmall
    split
    · exact ⟨h1, h2⟩
    · cases hn : numAt b s.pos with
      | none => exact ⟨h1, h2⟩
      | some v =>
        have := numAt_pre h8 hn
        dsimp only
        split
        · exact ⟨this.1, by show (s.pos + 8) % 8 = 0; omega⟩
        · exact ⟨h1, h2⟩
  · unfold rSmall at h
    simp only [Bool.false_eq_true, if_false] at h
    cases hn : numAt b p with
    | none => rw [hn] at h; simp at h
    | some v =>
      rw [hn] at h
      dsimp only at h
      by_cases hv : v ≤ m
      · rw [if_pos hv] at h
        simp only [Prod.mk.injEq, St.mk.injEq, and_true] at h
        obtain ⟨rfl, rfl⟩ := h
        exact ⟨[v], ⟨rfl, (numAt_b h8 hn).1, hv⟩, rfl, (numAt_pre h8 hn).2⟩
      · rw [if_neg hv] at h
        simp at h
theorem sd_whole {b : List Int} (h8 : Bytes8 b) : Sd b (rWhole b) (fun v ns => ns = [v] ∧ IsU64 v) := by
  refine ⟨fun s h1 h2 => ?_, fun s hs => by simp [rWhole, hs], fun p q x h => ?_⟩
  · unfold rWhole
    split
    · exact ⟨h1, h2⟩
    · cases hn : numAt b s.pos with
      | none => exact ⟨h1, h2⟩
      | some v => exact ⟨(numAt_pre h8 hn).1, by show (s.pos + 8) % 8 = 0; omega⟩
  · unfold rWhole at h
    simp only [Bool.false_eq_true, if_false] at h
    cases hn : numAt b p with
    | none => rw [hn] at h; simp at h
    | some v =>
      rw [hn] at h
      simp only [Prod.mk.injEq, St.mk.injEq, and_true] at h
      obtain ⟨rfl, rfl⟩ := h
      exact ⟨[v], ⟨rfl, numAt_b h8 hn⟩, rfl, (numAt_pre h8 hn).2⟩
theorem sd_point {b : List Int} (h8 : Bytes8 b) : Sd b (rPoint b) (fun x ns => ns = [x.1, x.2] ∧ (0 ≤ x.1 ∧ x.1 ≤ 1099511627776) ∧ IsU64 x.2) :=
  ((sd_small h8 1099511627776).seq fun e => (sd_whole h8).seq fun r => Sd.pure (b := b) (e, r) (R := fun x ns => x = (e, r) ∧ ns = []) ⟨rfl, rfl⟩).mono fun x ns h => by
    obtain ⟨e, n1, n2, ⟨rfl, h1⟩, ⟨r, n3, n4, ⟨rfl, h2⟩, ⟨rfl, rfl⟩, rfl⟩, rfl⟩ := h
    exact ⟨rfl, h1, h2⟩
theorem sd_who {b : List Int} (h8 : Bytes8 b) : ∀ (k : Nat) (acc : List Int), Sd b (rWho b k acc) (fun l ns => l = acc ++ ns ∧ ns.length = k ∧ ∀ x ∈ ns, 0 ≤ x ∧ x ≤ 4095)
  | 0, acc => Sd.pure acc ⟨by simp, rfl, by simp⟩
  | k + 1, acc => by
    have h0 := (sd_small h8 4095).seq fun x => sd_who h8 k (acc ++ [x])
    have key : ∀ s, (rWho b (k + 1) acc s).2 = (rWho b k (acc ++ [(rSmall b 4095 s).1]) (rSmall b 4095 s).2).2 := fun s => by
      rw [rWho]
      split
      · rename_i hb
        exact ((sd_who h8 k _).bad _ hb).symm
      · rfl
    refine ⟨fun s h1 h2 => by rw [key]; exact h0.pos s h1 h2, fun s hs => by rw [key]; exact h0.bad s hs, fun p q x e => ?_⟩
    have hnb : ¬ (rSmall b 4095 ⟨p, false⟩).2.bad = true := fun hb => by
      have h1 := key ⟨p, false⟩
      rw [e, (sd_who h8 k _).bad _ hb] at h1
      rw [← h1] at hb
      cases hb
    rw [rWho, if_neg hnb] at e
    obtain ⟨ns, ⟨y, n1, n2, ⟨rfl, h1⟩, ⟨rfl, h2, h3⟩, rfl⟩, h4⟩ := h0.good p q x e
    refine ⟨[y] ++ n2, ⟨by rw [List.append_assoc], by simp [h2], fun z hz => ?_⟩, h4⟩
    rcases List.mem_append.1 hz with hz | hz
    · simp only [List.mem_singleton] at hz
      subst hz
      exact h1
    · exact h3 z hz
theorem u64_small {x : Int} (h : 0 ≤ x ∧ x ≤ 1099511627776) : u64 x = x := u64_id ⟨h.1, by omega⟩
theorem sd_vote {b : List Int} (h8 : Bytes8 b) : Sd b (rVote b) (fun v ns => ns = voteNs v ∧ fitsB v = true) :=
  ((sd_small h8 1099511627776).seq fun x1 => (sd_whole h8).seq fun x2 => (sd_point h8).seq fun x3 => (sd_point h8).seq fun x4 => (sd_small h8 4096).seq fun x5 => (sd_who h8 x5.toNat []).seq fun f => Sd.pure (b := b) (Vt.mk x1 x2 x3.1 x3.2 x4.1 x4.2 f) (R := fun x ns => x = Vt.mk x1 x2 x3.1 x3.2 x4.1 x4.2 f ∧ ns = []) ⟨rfl, rfl⟩).mono fun x ns h => by
    obtain ⟨x1, _, _, ⟨rfl, h1⟩, ⟨x2, _, _, ⟨rfl, h2⟩, ⟨x3, _, _, ⟨rfl, h3, h3'⟩, ⟨x4, _, _, ⟨rfl, h4, h4'⟩, ⟨x5, _, _, ⟨rfl, h5⟩, ⟨f, m1, _, ⟨hf1, h6, h7⟩, ⟨rfl, rfl⟩, rfl⟩, rfl⟩, rfl⟩, rfl⟩, rfl⟩, rfl⟩ := h
    rw [List.nil_append] at hf1
    subst hf1
    have hl : (f.length : Int) = x5 := by rw [h6]; omega
    have hf : fitsB (Vt.mk x1 x2 x3.1 x3.2 x4.1 x4.2 f) = true := by
      simp only [fitsB, fits0, inWho, Bool.and_eq_true, decide_eq_true_eq, List.all_eq_true]
      refine ⟨⟨h1, h3, h4, by omega⟩, fun y hy => by have := h7 y hy; omega⟩
    refine ⟨?_, hf⟩
    rw [voteNs_id hf]
    simp only [List.nil_append, List.append_nil, List.cons_append, hl]
theorem sd_proof {b : List Int} (h8 : Bytes8 b) : Sd b (rProof b) (fun x ns => ns = pfNs x ∧ pfB x = true) :=
  ((sd_vote h8).seq fun x => (sd_vote h8).seq fun y => Sd.pure (b := b) (Pf.mk x y) (R := fun z ns => z = Pf.mk x y ∧ ns = []) ⟨rfl, rfl⟩).mono fun x ns h => by
    obtain ⟨x, _, _, ⟨rfl, h1⟩, ⟨y, _, _, ⟨rfl, h2⟩, ⟨rfl, rfl⟩, rfl⟩, rfl⟩ := h
    exact ⟨by rw [List.append_nil]; rfl, by rw [pfB, h1, h2]; rfl⟩
theorem sd_votes {b : List Int} (h8 : Bytes8 b) : ∀ (k : Nat) (acc : List Vt), Sd b (rVotes b k acc) (fun l ns => ∃ l', l = acc ++ l' ∧ l'.length = k ∧ ns = l'.flatMap voteNs ∧ ∀ v ∈ l', fitsB v = true)
  | 0, acc => Sd.pure acc ⟨[], by simp, rfl, rfl, by simp⟩
  | k + 1, acc => ((sd_vote h8).seq fun x => sd_votes h8 k (acc ++ [x])).mono fun l ns h => by
    obtain ⟨x, _, _, ⟨rfl, h1⟩, ⟨l', rfl, h2, rfl, h3⟩, rfl⟩ := h
    refine ⟨x :: l', by rw [List.append_assoc]; rfl, by simp [h2], by rw [List.flatMap_cons], fun v hv => ?_⟩
    rcases List.mem_cons.1 hv with rfl | hv
    · exact h1
    · exact h3 v hv
theorem sd_proofs {b : List Int} (h8 : Bytes8 b) : ∀ (k : Nat) (acc : List Pf), Sd b (rProofs b k acc) (fun l ns => ∃ l', l = acc ++ l' ∧ l'.length = k ∧ ns = l'.flatMap pfNs ∧ ∀ v ∈ l', pfB v = true)
  | 0, acc => Sd.pure acc ⟨[], by simp, rfl, rfl, by simp⟩
  | k + 1, acc => ((sd_proof h8).seq fun x => sd_proofs h8 k (acc ++ [x])).mono fun l ns h => by
    obtain ⟨x, _, _, ⟨rfl, h1⟩, ⟨l', rfl, h2, rfl, h3⟩, rfl⟩ := h
    refine ⟨x :: l', by rw [List.append_assoc]; rfl, by simp [h2], by rw [List.flatMap_cons], fun v hv => ?_⟩
    rcases List.mem_cons.1 hv with rfl | hv
    · exact h1
    · exact h3 v hv
theorem sd_block {b : List Int} (h8 : Bytes8 b) : Sd b (rBlock b) (fun x ns => ns = bkNs x ∧ bkB x = true) :=
  ((sd_whole h8).seq fun x1 => (sd_whole h8).seq fun x2 => (sd_small h8 1099511627776).seq fun x3 => (sd_small h8 16).seq fun x4 => (sd_small h8 16).seq fun x5 => (sd_votes h8 x4.toNat []).seq fun f => (sd_proofs h8 x5.toNat []).seq fun g => Sd.pure (b := b) (Bk.mk x1 x2 x3 f g) (R := fun x ns => x = Bk.mk x1 x2 x3 f g ∧ ns = []) ⟨rfl, rfl⟩).mono fun x ns h => by
    obtain ⟨x1, _, _, ⟨rfl, h1⟩, ⟨x2, _, _, ⟨rfl, h2⟩, ⟨x3, _, _, ⟨rfl, h3⟩, ⟨x4, _, _, ⟨rfl, h4⟩, ⟨x5, _, _, ⟨rfl, h5⟩, ⟨f, _, _, ⟨f', rfl, h6, rfl, h6'⟩, ⟨g, _, _, ⟨g', rfl, h7, rfl, h7'⟩, ⟨rfl, rfl⟩, rfl⟩, rfl⟩, rfl⟩, rfl⟩, rfl⟩, rfl⟩, rfl⟩ := h
    have e4 : (f.length : Int) = x4 := by rw [h6]; omega
    have e5 : (g.length : Int) = x5 := by rw [h7]; omega
    refine ⟨?_, ?_⟩
    · rw [bkNs]
      simp only [List.nil_append, List.append_nil, List.cons_append, u64_small h3, e4, e5]
    · simp only [bkB, bk0, Bool.and_eq_true, decide_eq_true_eq, List.all_eq_true]
      exact ⟨⟨⟨h3, by omega, by omega⟩, h6'⟩, h7'⟩
theorem sd_event {b : List Int} (h8 : Bytes8 b) : Sd b (rEvent b) (fun x ns => ns = evNs x ∧ evB x = true) := by
  have hk : ∀ x, 0 ≤ x ∧ x ≤ 3 → Sd b (rKind x b) (fun e ns => x :: ns = evNs e ∧ evB e = true) := fun x hx => by
    unfold rKind
    by_cases h0 : x = 0
    · simp only [if_pos h0]
      refine ((sd_small h8 1099511627776).seq fun y => Sd.pure (b := b) (Ev.mk 0 y bkZ vtZ pfZ) (R := fun z ns => z = Ev.mk 0 y bkZ vtZ pfZ ∧ ns = []) ⟨rfl, rfl⟩).mono fun e ns h => ?_
      obtain ⟨y, _, _, ⟨rfl, h1⟩, ⟨rfl, rfl⟩, rfl⟩ := h
      subst h0
      refine ⟨?_, ?_⟩
      · have e := u64_small h1
        show (0 :: ([y] ++ [])) = evNs ⟨0, y, bkZ, vtZ, pfZ⟩
        rw [evNs, if_pos rfl, e]
        rfl
      · simp [evB, inSlot, h1]
    by_cases h1 : x = 1
    · simp only [if_neg h0, if_pos h1]
      refine ((sd_block h8).seq fun y => Sd.pure (b := b) (Ev.mk 1 0 y vtZ pfZ) (R := fun z ns => z = Ev.mk 1 0 y vtZ pfZ ∧ ns = []) ⟨rfl, rfl⟩).mono fun e ns h => ?_
      obtain ⟨y, _, _, ⟨rfl, h2⟩, ⟨rfl, rfl⟩, rfl⟩ := h
      subst h1
      exact ⟨by simp [evNs, u64], by simp [evB, h2]⟩
    by_cases h2 : x = 2
    · simp only [if_neg h0, if_neg h1, if_pos h2]
      refine ((sd_vote h8).seq fun y => Sd.pure (b := b) (Ev.mk 2 0 bkZ y pfZ) (R := fun z ns => z = Ev.mk 2 0 bkZ y pfZ ∧ ns = []) ⟨rfl, rfl⟩).mono fun e ns h => ?_
      obtain ⟨y, _, _, ⟨rfl, h3⟩, ⟨rfl, rfl⟩, rfl⟩ := h
      subst h2
      exact ⟨by simp [evNs, u64], by simp [evB, h3]⟩
    · simp only [if_neg h0, if_neg h1, if_neg h2]
      refine ((sd_proof h8).seq fun y => Sd.pure (b := b) (Ev.mk 3 0 bkZ vtZ y) (R := fun z ns => z = Ev.mk 3 0 bkZ vtZ y ∧ ns = []) ⟨rfl, rfl⟩).mono fun e ns h => ?_
      obtain ⟨y, _, _, ⟨rfl, h3⟩, ⟨rfl, rfl⟩, rfl⟩ := h
      obtain rfl : x = 3 := by omega
      exact ⟨by simp [evNs, u64], by simp [evB, h3]⟩
  have hs := sd_small h8 3
  refine ⟨fun s h1 h2 => ?_, fun s h => ?_, fun p q x e => ?_⟩
  · obtain ⟨a1, a2⟩ := hs.pos s h1 h2
    exact (hk _ (rSmall_b h8 (by omega) s)).pos _ a1 a2
  · have h1 := hs.bad s h
    have h2 := (hk _ (rSmall_b h8 (show (0 : Int) ≤ 3 by omega) s)).bad (rSmall b 3 s).2 (by rw [h1]; exact h)
    exact h2.trans h1
  · have hx := rSmall_b h8 (show (0 : Int) ≤ 3 by omega) ⟨p, false⟩
    obtain ⟨y, s1, hy⟩ : ∃ x s1, rSmall b 3 ⟨p, false⟩ = (x, s1) := ⟨_, _, rfl⟩
    have e2 : rKind (rSmall b 3 ⟨p, false⟩).1 b (rSmall b 3 ⟨p, false⟩).2 = (x, ⟨q, false⟩) := e
    rw [hy] at e2 hx
    obtain ⟨q1, bd⟩ := s1
    cases bd
    · obtain ⟨n1, ⟨rfl, a1⟩, a2, a3⟩ := hs.good p q1 y hy
      obtain ⟨n2, ⟨b1, b1'⟩, b2, b3⟩ := (hk y hx).good q1 q x e2
      subst a2
      exact ⟨[y] ++ n2, ⟨b1, b1'⟩, by rw [b2, List.length_append]; omega, a3.append b3⟩
    · have := (hk y hx).bad ⟨q1, true⟩ rfl
      rw [e2] at this
      simp at this
/-- what is read of any bytes, and where -/
theorem dec_sound {b : List Int} (h8 : Bytes8 b) : ∀ (k : Nat) (acc : List Ev) (p : Nat), p ≤ b.length → p % 8 = 0 → (∀ e ∈ acc, evB e = true) → bytesOf acc = b.take p → ∀ xs q bd, rDec b k acc ⟨p, false⟩ = (xs, q, bd) →
    (bd = false → q = b.length ∧ bytesOf xs = b ∧ ∀ e ∈ xs, evB e = true) ∧ (bd = true → xs = [] ∧ q ≤ b.length ∧ q % 8 = 0)
  | 0, acc, p, h1, h2, ha, hb, xs, q, bd, e => by
    rw [rDec] at e
    dsimp only at e
    split at e
    · simp only [Prod.mk.injEq] at e
      obtain ⟨rfl, rfl, rfl⟩ := e
      exact ⟨fun h => (by cases h), fun _ => ⟨rfl, h1, h2⟩⟩
    · simp only [Prod.mk.injEq] at e
      obtain ⟨rfl, rfl, rfl⟩ := e
      have : p = b.length := by omega
      subst this
      exact ⟨fun _ => ⟨rfl, by rw [hb, List.take_length], ha⟩, fun h => (by cases h)⟩
  | k + 1, acc, p, h1, h2, ha, hb, xs, q, bd, e => by
    rw [rDec] at e
    dsimp only at e
    split at e
    · split at e
      · simp only [Prod.mk.injEq] at e
        obtain ⟨rfl, rfl, rfl⟩ := e
        exact ⟨fun h => (by cases h), fun _ => ⟨rfl, (sd_event h8).pos ⟨p, false⟩ h1 h2⟩⟩
      · rename_i hnb
        obtain ⟨x, s1, hx⟩ : ∃ x s1, rEvent b ⟨p, false⟩ = (x, s1) := ⟨_, _, rfl⟩
        rw [hx] at e hnb
        dsimp only at e hnb
        obtain ⟨q1, bd1⟩ := s1
        cases bd1
        · have hp := (sd_event h8).pos ⟨p, false⟩ h1 h2
          rw [hx] at hp
          obtain ⟨ns, ⟨rfl, hx2⟩, hq, r, hr⟩ := (sd_event h8).good p q1 x hx
          refine dec_sound h8 k (acc ++ [x]) q1 hp.1 hp.2 (fun y hy => ?_) ?_ xs q bd e
          · rcases List.mem_append.1 hy with hy | hy
            · exact ha y hy
            · simp only [List.mem_singleton] at hy
              subst hy
              exact hx2
          · rw [hq, List.take_add, hr, ← len_flat, List.take_left, ← hb]
            simp [bytesOf, evBytes]
        · exact absurd rfl hnb
    · simp only [Prod.mk.injEq] at e
      obtain ⟨rfl, rfl, rfl⟩ := e
      have : p = b.length := by omega
      subst this
      exact ⟨fun _ => ⟨rfl, by rw [hb, List.take_length], ha⟩, fun h => (by cases h)⟩
theorem dec_len {b : List Int} : ∀ (k : Nat) (acc : List Ev) (s : St), (rDec b k acc s).1.length ≤ acc.length + k
  | 0, acc, s => by
    rw [rDec]
    split <;> simp
  | k + 1, acc, s => by
    rw [rDec]
    split
    · split
      · simp
      · have := dec_len (b := b) k (acc ++ [(rEvent b s).1]) (rEvent b s).2
        simp only [List.length_append, List.length_cons, List.length_nil] at this
        omega
    · simp only []
      omega
end Go.Proofs.YtpmldjcfmclkkaaDoor
