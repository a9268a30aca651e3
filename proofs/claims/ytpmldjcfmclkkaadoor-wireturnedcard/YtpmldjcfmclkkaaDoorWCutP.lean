/- Plain facts on reading bytes of which some are cut off: all is read as it was, up to the number that is not all there. -/
import Derived.Test.YtpmldjcfmclkkaaDoorWPure

namespace Go.Proofs.YtpmldjcfmclkkaaDoor

open Go.ChangeShapes Go.WideShapes Go.ChangeAt Go.RowKit

set_option linter.unusedVariables false

/-- b' lacks one to seven bytes of b; L: where the number that is not all there begins -/
structure CutOff (b b' : List Int) (L : Nat) : Prop where
  len : b.length = L + 8
  less : L < b'.length ∧ b'.length < L + 8
  pre : b' = b.take b'.length
  div : L % 8 = 0
theorem CutOff.num {b b' : List Int} {L : Nat} (h : CutOff b b' L) {p : Nat} (hp : p % 8 = 0) {v : Int} (hv : numAt b p = some v) : (p + 8 ≤ L → numAt b' p = some v) ∧ (L < p + 8 → p = L ∧ numAt b' p = none) := by
  unfold numAt at hv ⊢
  split at hv
  · rename_i h8
    refine ⟨fun hL => ?_, fun hL => ?_⟩
    · rw [if_pos (by have := h.less; omega)]
      rw [← hv, h.pre, List.drop_take, List.take_take, Nat.min_eq_left (by have := h.less; omega)]
    · have := h.len
      have := h.div
      have hpL : p = L := by omega
      exact ⟨hpL, by rw [if_neg (by have := h.less; omega)]⟩
  · cases hv

section

variable {α β : Type} {b b' : List Int} {L : Nat}
/-- a reading: the same of the cut bytes where it ends ahead of the cut; else it is bad there -/
structure Tr (b b' : List Int) (L : Nat) (F : List Int → St → α × St) : Prop where
  good : ∀ p x q, p % 8 = 0 → F b ⟨p, false⟩ = (x, ⟨q, false⟩) → p ≤ q ∧ q % 8 = 0 ∧ (q ≤ L → F b' ⟨p, false⟩ = (x, ⟨q, false⟩)) ∧ (p ≤ L → L < q → (F b' ⟨p, false⟩).2 = ⟨L, true⟩)
  bad : ∀ B s, s.bad = true → (F B s).2 = s
theorem Tr.pure (x : α) : Tr b b' L (fun _ s => (x, s)) :=
  ⟨fun p y q hp h => by
    simp only [Prod.mk.injEq, St.mk.injEq, and_true] at h
    obtain ⟨rfl, rfl⟩ := h
    exact ⟨Nat.le_refl _, hp, fun _ => rfl, fun h1 h2 => by omega⟩, fun _ _ _ => rfl⟩
theorem Tr.seq {F : List Int → St → α × St} {G : α → List Int → St → β × St} (hF : Tr b b' L F) (hG : ∀ x, Tr b b' L (G x)) : Tr b b' L (fun B s => G (F B s).1 B (F B s).2) := by
  refine ⟨fun p y q hp h => ?_, fun B s hs => ?_⟩
  · obtain ⟨x, s1, hx⟩ : ∃ x s1, F b ⟨p, false⟩ = (x, s1) := ⟨_, _, rfl⟩
    rw [hx] at h
    dsimp only at h
    obtain ⟨q1, bd⟩ := s1
    cases bd
    · obtain ⟨a1, a2, a3, a4⟩ := hF.good p x q1 hp hx
      obtain ⟨b1, b2, b3, b4⟩ := (hG x).good q1 y q a2 h
      refine ⟨by omega, b2, fun hq => ?_, fun hpL hq => ?_⟩
      · rw [a3 (by omega)]
        exact b3 hq
      · by_cases h1 : q1 ≤ L
        · rw [a3 h1]
          exact b4 h1 hq
        · have h2 := a4 hpL (by omega)
          rw [h2]
          exact (hG _).bad b' ⟨L, true⟩ rfl
    · have := (hG x).bad b ⟨q1, true⟩ rfl
      rw [h] at this
      simp at this
  · have h1 := hF.bad B s hs
    rw [h1]
    exact (hG _).bad B s hs
end
theorem tr_small {b b' : List Int} {L : Nat} (h : CutOff b b' L) (m : Int) : Tr b b' L (fun B s => rSmall B m s) := by
  refine ⟨fun p x q hp hh => ?_, fun B s hs => by simp [rSmall, hs]⟩
  unfold rSmall at hh
  simp only [Bool.false_eq_true, if_false] at hh
  cases hn : numAt b p with
  | none => rw [hn] at hh; simp at hh
  | some v =>
    rw [hn] at hh
    dsimp only at hh
    by_cases hv : v ≤ m
    · rw [if_pos hv] at hh
      simp only [Prod.mk.injEq, St.mk.injEq, and_true] at hh
      obtain ⟨rfl, rfl⟩ := hh
      have hc := h.num hp hn
      refine ⟨by omega, by omega, fun hq => by simp [rSmall, hc.1 hq, hv], fun _ hq => ?_⟩
      obtain ⟨e1, e2⟩ := hc.2 hq
      subst e1
      simp [rSmall, e2]
    · rw [if_neg hv] at hh
      simp at hh
theorem tr_whole {b b' : List Int} {L : Nat} (h : CutOff b b' L) : Tr b b' L (fun B s => rWhole B s) := by
  refine ⟨fun p x q hp hh => ?_, fun B s hs => by simp [rWhole, hs]⟩
  unfold rWhole at hh
  simp only [Bool.false_eq_true, if_false] at hh
  cases hn : numAt b p with
  | none => rw [hn] at hh; simp at hh
  | some v =>
    rw [hn] at hh
    simp only [Prod.mk.injEq, St.mk.injEq, and_true] at hh
    obtain ⟨rfl, rfl⟩ := hh
    have hc := h.num hp hn
    refine ⟨by omega, by omega, fun hq => by simp [rWhole, hc.1 hq], fun _ hq => ?_⟩
    obtain ⟨e1, e2⟩ := hc.2 hq
    subst e1
    simp [rWhole, e2]
theorem tr_point {b b' : List Int} {L : Nat} (h : CutOff b b' L) : Tr b b' L (fun B s => rPoint B s) :=
  (tr_small h 1099511627776).seq fun e => (tr_whole h).seq fun r => Tr.pure (e, r)
theorem tr_who {b b' : List Int} {L : Nat} (h : CutOff b b' L) : ∀ (k : Nat) (acc : List Int), Tr b b' L (fun B s => rWho B k acc s)
  | 0, acc => Tr.pure acc
  | k + 1, acc => by
    have h0 := (tr_small h 4095).seq fun x => tr_who h k (acc ++ [x])
    refine ⟨fun p x q hp hh => ?_, fun B s hs => ?_⟩
    · obtain ⟨y, s1, hx⟩ : ∃ x s1, rSmall b 4095 ⟨p, false⟩ = (x, s1) := ⟨_, _, rfl⟩
      have hnb : s1.bad = false := by
        cases hb : s1.bad with
        | false => rfl
        | true =>
          simp only [rWho, hx, hb, if_true] at hh
          simp only [Prod.mk.injEq] at hh
          rw [hh.2] at hb
          cases hb
      have hh' : rWho b k (acc ++ [(rSmall b 4095 ⟨p, false⟩).1]) (rSmall b 4095 ⟨p, false⟩).2 = (x, ⟨q, false⟩) := by
        rw [← hh, rWho, if_neg (by rw [hx]; simp [hnb])]
      obtain ⟨a1, a2, a3, a4⟩ := h0.good p x q hp hh'
      have key : (rWho b' (k + 1) acc ⟨p, false⟩).2 = (rWho b' k (acc ++ [(rSmall b' 4095 ⟨p, false⟩).1]) (rSmall b' 4095 ⟨p, false⟩).2).2 := by
        rw [rWho]
        split
        · rename_i hb
          exact ((tr_who h k _).bad b' _ hb).symm
        · rfl
      refine ⟨a1, a2, fun hq => ?_, fun h1 h2 => by rw [key]; exact a4 h1 h2⟩
      have a5 := a3 hq
      have hnb' : ¬ (rSmall b' 4095 ⟨p, false⟩).2.bad = true := fun hb => by
        have := (tr_who h k (acc ++ [(rSmall b' 4095 ⟨p, false⟩).1])).bad b' _ hb
        rw [a5] at this
        rw [← this] at hb
        cases hb
      show rWho b' (k + 1) acc ⟨p, false⟩ = _
      rw [rWho, if_neg hnb']
      exact a5
    · have hb : (rSmall B 4095 s).2.bad = true := by rw [(tr_small h 4095).bad B s hs]; exact hs
      show (rWho B (k + 1) acc s).2 = s
      rw [rWho, if_pos hb]
      exact (tr_small h 4095).bad B s hs
theorem tr_vote {b b' : List Int} {L : Nat} (h : CutOff b b' L) : Tr b b' L (fun B s => rVote B s) :=
  (tr_small h 1099511627776).seq fun x1 => (tr_whole h).seq fun x2 => (tr_point h).seq fun x3 => (tr_point h).seq fun x4 => (tr_small h 4096).seq fun x5 => (tr_who h x5.toNat []).seq fun f => Tr.pure (Vt.mk x1 x2 x3.1 x3.2 x4.1 x4.2 f)
theorem tr_proof {b b' : List Int} {L : Nat} (h : CutOff b b' L) : Tr b b' L (fun B s => rProof B s) :=
  (tr_vote h).seq fun x => (tr_vote h).seq fun y => Tr.pure (Pf.mk x y)
theorem tr_votes {b b' : List Int} {L : Nat} (h : CutOff b b' L) : ∀ (k : Nat) (acc : List Vt), Tr b b' L (fun B s => rVotes B k acc s)
  | 0, acc => Tr.pure acc
  | k + 1, acc => (tr_vote h).seq fun x => tr_votes h k (acc ++ [x])
theorem tr_proofs {b b' : List Int} {L : Nat} (h : CutOff b b' L) : ∀ (k : Nat) (acc : List Pf), Tr b b' L (fun B s => rProofs B k acc s)
  | 0, acc => Tr.pure acc
  | k + 1, acc => (tr_proof h).seq fun x => tr_proofs h k (acc ++ [x])
theorem tr_block {b b' : List Int} {L : Nat} (h : CutOff b b' L) : Tr b b' L (fun B s => rBlock B s) :=
  (tr_whole h).seq fun x1 => (tr_whole h).seq fun x2 => (tr_small h 1099511627776).seq fun x3 => (tr_small h 16).seq fun x4 => (tr_small h 16).seq fun x5 => (tr_votes h x4.toNat []).seq fun f => (tr_proofs h x5.toNat []).seq fun g => Tr.pure (Bk.mk x1 x2 x3 f g)
/-- the rest of an event, by its kind -/
def rKind (x : Int) (B : List Int) (s : St) : Ev × St :=
  if x = 0 then (⟨0, (rSmall B 1099511627776 s).1, bkZ, vtZ, pfZ⟩, (rSmall B 1099511627776 s).2)
  else if x = 1 then (⟨1, 0, (rBlock B s).1, vtZ, pfZ⟩, (rBlock B s).2)
  else if x = 2 then (⟨2, 0, bkZ, (rVote B s).1, pfZ⟩, (rVote B s).2)
  else (⟨3, 0, bkZ, vtZ, (rProof B s).1⟩, (rProof B s).2)
theorem tr_kind {b b' : List Int} {L : Nat} (h : CutOff b b' L) (x : Int) : Tr b b' L (rKind x) := by
  unfold rKind
  by_cases h0 : x = 0
  · simp only [if_pos h0]
    exact (tr_small h 1099511627776).seq fun y => Tr.pure (Ev.mk 0 y bkZ vtZ pfZ)
  by_cases h1 : x = 1
  · simp only [if_neg h0, if_pos h1]
    exact (tr_block h).seq fun y => Tr.pure (Ev.mk 1 0 y vtZ pfZ)
  by_cases h2 : x = 2
  · simp only [if_neg h0, if_neg h1, if_pos h2]
    exact (tr_vote h).seq fun y => Tr.pure (Ev.mk 2 0 bkZ y pfZ)
  · simp only [if_neg h0, if_neg h1, if_neg h2]
    exact (tr_proof h).seq fun y => Tr.pure (Ev.mk 3 0 bkZ vtZ y)
theorem tr_event {b b' : List Int} {L : Nat} (h : CutOff b b' L) : Tr b b' L (fun B s => rEvent B s) :=
  (tr_small h 3).seq fun x => tr_kind h x
/-- bytes of events of which some are cut off: the place of the number that is not all there -/
theorem cut_dec {b b' : List Int} {L : Nat} (hc : CutOff b b' L) : ∀ (es acc : List Ev) (k p : Nat), b.drop p = bytesOf es → p ≤ L → p % 8 = 0 → es.length ≤ k → (∀ e ∈ es, evB e = true ∧ e.Wf) → rDec b' k acc ⟨p, false⟩ = ([], L, true)
  | [], acc, k, p, h, hp, _, _, _ => by
    exfalso
    have := congrArg List.length h
    rw [List.length_drop, hc.len] at this
    simp only [bytesOf, List.flatMap_nil, List.length_nil] at this
    omega
  | e :: es, acc, 0, p, h, hp, _, hk, _ => by simp at hk
  | e :: es, acc, k + 1, p, h, hp, h8, hk, hb => by
    have he := hb e (by simp)
    have hd : b.drop p = flat (evNs e) ++ bytesOf es := h
    have h1 := event_pre (t := []) (bs := b) (p := p) ⟨bytesOf es, by rw [List.append_nil]; exact hd⟩ he.1 he.2
    obtain ⟨a1, a2, a3, a4⟩ := (tr_event hc).good p _ _ h8 h1
    show (if p < b'.length then _ else _) = _
    rw [if_pos (by have := hc.less; omega)]
    by_cases hL : p + 8 * (evNs e).length ≤ L
    · rw [a3 hL]
      simp only [Bool.false_eq_true, if_false]
      exact cut_dec hc es (acc ++ [bareE e]) k _ (by rw [← List.drop_drop, hd, ← len_flat, List.drop_left]) hL a2 (by simpa using hk) (fun y hy => hb y (by simp [hy]))
    · have h2 : (rEvent b' ⟨p, false⟩).2 = ⟨L, true⟩ := a4 hp (by omega)
      rw [h2]
      rfl
end Go.Proofs.YtpmldjcfmclkkaaDoor
