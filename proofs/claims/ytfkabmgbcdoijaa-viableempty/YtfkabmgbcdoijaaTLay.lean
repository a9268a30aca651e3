/- Contract of lay: a block is put behind all others. -/
import Derived.Test.YtfkabmgbcdoijaaTRead

import Derived.Test.YtfkabmgbcdoijaaTSearch

import Derived.Test.YtfkabmgbcdoijaaTInsert

namespace Go.Proofs.Ytfkabmgbcdoijaa

open Go.ChangeShapes Go.WideShapes Go.ChangeAt Go.RowKit

set_option linter.unusedVariables false

/-- the walk stops here -/
def Stop (p : Prop) : Prop := p
theorem stopHere {p : Prop} (h : Stop p) : p := h
def TBlk.grow (b : TBlk) (xs : List Int) : TBlk := { b with kids := xs }
/-- the block of the row of blocks is none of its kids' -/
theorem BAt.ne {w : World} {bv : Value} {bs : List TBlk} {ks : List Value} (h : BAt w bv bs ks) {g i : Nat} (hg : bv.ownBlock = some g) : kb ks i ≠ some g := by
  intro hk
  obtain ⟨C, hC⟩ : ∃ C, w.heap[g]? = some (.cells C 62 (0, 0)) := by
    obtain ⟨css, _, ho⟩ := h.row
    rcases ho.2 with ⟨rfl, _⟩ | ⟨g', cap, cur, rfl, _, hb, _⟩
    · cases hg
    · cases hg; exact ⟨_, hb⟩
  have hi : i < bs.length := by
    rcases Nat.lt_or_ge i bs.length with h' | h'
    · exact h'
    · rw [kb_none (by rw [h.len]; exact h')] at hk
      cases hk
  rcases (h.kid i hi).2 with ⟨e, _⟩ | ⟨g', cap, cur, e, _, hb, _⟩
  · rw [kb, e] at hk; cases hk
  · rw [kb, e] at hk
    cases hk
    rw [hC] at hb
    cases hb
theorem zip_set {α β : Type} : ∀ (xs : List α) (ys : List β) (i : Nat) (a : α) (b : β), (xs.set i a).zip (ys.set i b) = (xs.zip ys).set i (a, b)
  | [], _, _, _, _ => by simp
  | _ :: _, [], _, _, _ => by simp
  | x :: xs, y :: ys, 0, a, b => rfl
  | x :: xs, y :: ys, i + 1, a, b => by simp [zip_set xs ys i a b]
theorem flat_set {size : Nat} (css : List (List Value)) (h : ∀ cs ∈ css, cs.length = size) (i : Nat) (hi : i < css.length) (j : Nat) (hj : j < size) (v : Value) (C : Array Value) (hC : C.toList.take (css.length * size) = css.flatten) :
    (C.setIfInBounds (i * size + j) v).toList.take (css.length * size) = (css.set i (css[i].set j v)).flatten := by
  have hl : ∀ cs ∈ css.set i (css[i].set j v), cs.length = size := by
    intro cs hm
    rcases List.mem_or_eq_of_mem_set hm with h1 | h1
    · exact h cs h1
    · rw [h1, List.length_set]; exact h _ (List.getElem_mem hi)
  have hij : i * size + j < css.length * size := by
    have : (i + 1) * size ≤ css.length * size := Nat.mul_le_mul_right _ hi
    rw [Nat.add_mul] at this
    omega
  have hsz : css.length * size ≤ C.size := by
    have := congrArg List.length hC
    rw [flatten_len css h, List.length_take] at this
    simp at this
    omega
  apply List.ext_getElem?
  intro q
  rw [List.getElem?_take]
  by_cases hq : q < css.length * size
  · rw [if_pos hq]
    have hs : 0 < size := by omega
    have hqi : q / size < css.length := Nat.div_lt_of_lt_mul (by rw [Nat.mul_comm]; exact hq)
    have hqj : q % size < size := Nat.mod_lt _ hs
    have hqq : q = q / size * size + q % size := by rw [Nat.mul_comm]; exact (Nat.div_add_mod q size).symm
    have eC : C.toList[q]? = css[q / size][q % size]? := by
      have := congrArg (fun l => l[q]?) hC
      simp only [List.getElem?_take, if_pos hq] at this
      rw [this]
      conv => lhs; rw [hqq]
      exact flatten_get css h (q / size) hqi (q % size) hqj
    have eR : (css.set i (css[i].set j v)).flatten[q]? = ((css.set i (css[i].set j v))[q / size]'(by simpa using hqi))[q % size]? := by
      conv => lhs; rw [hqq]
      exact flatten_get _ hl (q / size) (by simpa using hqi) (q % size) hqj
    rw [eR, Array.getElem?_toList]
    by_cases e1 : q / size = i
    · by_cases e2 : q % size = j
      · have e3 : q = i * size + j := by rw [hqq, e1, e2]
        have eL : (C.setIfInBounds (i * size + j) v)[q]? = some v := by rw [e3]; exact Array.getElem?_setIfInBounds_self_of_lt (by omega)
        rw [eL]
        simp only [e1, e2, List.getElem_set_self]
        rw [List.getElem?_set_self (by rw [h _ (List.getElem_mem hi)]; exact hj)]
      · rw [Array.getElem?_setIfInBounds_ne (fun e => e2 (by
          rw [← e, Nat.mul_comm, Nat.mul_add_mod]; exact Nat.mod_eq_of_lt hj)), ← Array.getElem?_toList, eC]
        simp only [e1, List.getElem_set_self]
        rw [List.getElem?_set_ne (fun e => e2 e.symm)]
    · rw [Array.getElem?_setIfInBounds_ne (fun e => e1 (by
        rw [← e, Nat.mul_comm, Nat.mul_add_div hs, Nat.div_eq_of_lt hj, Nat.add_zero])), ← Array.getElem?_toList, eC, List.getElem_set_ne (fun e => e1 e.symm)]
  · rw [if_neg hq]
    refine (List.getElem?_eq_none ?_).symm
    rw [flatten_len _ hl, List.length_set]
    omega
theorem kb_set {ks : List Value} {o : Nat} (ho : o < ks.length) (v : Value) (i : Nat) : kb (ks.set o v) i = if i = o then v.ownBlock else kb ks i := by
  unfold kb
  by_cases h : i = o
  · subst h; simp [List.getD_eq_getElem?_getD, ho]
  · rw [if_neg h, List.getD_eq_getElem?_getD, List.getElem?_set_ne (fun e => h e.symm), ← List.getD_eq_getElem?_getD]
theorem getD_set {ks : List Value} {o : Nat} (ho : o < ks.length) (v z : Value) (i : Nat) : (ks.set o v).getD i z = if i = o then v else ks.getD i z := by
  by_cases h : i = o
  · subst h; simp [List.getD_eq_getElem?_getD, ho]
  · rw [if_neg h, List.getD_eq_getElem?_getD, List.getElem?_set_ne (fun e => h e.symm), ← List.getD_eq_getElem?_getD]

/-- a row of kids has turned, and is stored -/
theorem BAt.setKid {w w2 : World} {bv : Value} {bs : List TBlk} {ks : List Value} (h : BAt w bv bs ks) {g o : Nat} (ho : o < bs.length) (hg : bv.ownBlock = some g) {v' : Value} {xs : List Int}
    (hv : w2.ownsRow 0 29 1 v' xs.length (xs.map (Value.int .u64))) (hgr : w.grownBy w2 (kb ks o)) (hloc : v'.ownBlock = kb ks o ∨ v'.ownBlock = some w.heap.size) (h1 : v'.oneCell' = true) :
    BAt (w2.setCell ⟨g, o * 5 + 4, none⟩ v') bv (bs.set o ((tb bs o).grow xs)) (ks.set o v') := by
  have hok : o < ks.length := by rw [h.len]; exact ho
  have hold : ∀ i k, kb ks i = some k → k < w.heap.size := fun i k hk => by
    obtain ⟨C, t, hb, _⟩ := h.block (.inr ⟨i, hk⟩)
    exact (OAt.of hb).lt
  have hgo : g < w.heap.size := by
    obtain ⟨C, t, hb, _⟩ := h.block (.inl hg)
    exact (OAt.of hb).lt
  have hT : Turn (fun k => kb ks o = some k) w w2 := .grown hgr
  have hS : Turn (fun k => k = g) w2 (w2.setCell ⟨g, o * 5 + 4, none⟩ v') := .apart ((Apart.refl g w2).set _ _)
  have hrow := (h.turn (F := fun k => False) (Turn.refl _ w) (fun _ _ h => h)).row
  refine ⟨by simp [h.len], ?_, fun i hi => ?_, fun i j k hi hj => ?_⟩
  · obtain ⟨css, hc, hown⟩ := hrow
    have hown2 := owns_turn hown hT (fun k hk => by rw [hg] at hk; cases hk; exact h.ne hg)
    have hlen := fun cs hm => (hc.mem cs hm).1
    have hcl : css.length = bs.length := by rw [hc.1]; simp [h.len]
    have hzl : (bs.zip ks).length = bs.length := by simp [h.len]
    have hoc : o < css.length := by omega
    refine ⟨css.set o (css[o].set 4 v'), ?_, ?_⟩
    · rw [zip_set]
      refine ⟨by simp [hc.1], fun i hi hi' => ?_⟩
      have hi2 : i < css.length := by simpa using hi
      have hi3 : i < (bs.zip ks).length := by simpa using hi'
      by_cases e : i = o
      · subst e
        simp only [List.getElem_set_self]
        obtain ⟨q1, q2, q3, q4⟩ := hc.2 i hi2 hi3
        have e2 : css[i].set 4 v' = tcells ((tb bs i).grow xs) v' := by
          rw [q3, tb_lt ho]
          simp [tcells, TBlk.grow]
        rw [e2]
        exact ⟨rfl, tR_one _ ((tb bs i).grow xs, v') ⟨rfl, h1⟩, rfl, h1⟩
      · simp only [List.getElem_set_ne (fun x => e x.symm)]
        exact hc.2 i hi2 hi3
    · have hlz : ((bs.set o ((tb bs o).grow xs)).zip (ks.set o v')).length = (bs.zip ks).length := by rw [zip_set]; simp
      rw [hlz]
      refine ⟨?_, ?_⟩
      · rw [flatten_len (size := 5)]
        · simp [hc.1]
        · intro cs hm
          rcases List.mem_or_eq_of_mem_set hm with h2 | h2
          · exact hlen cs h2
          · rw [h2, List.length_set]; exact hlen _ (List.getElem_mem hoc)
      · rcases hown2.2 with ⟨rfl, _⟩ | ⟨g', cap, cur, rfl, q1, q2, q3, q4, q5, q6⟩
        · cases hg
        · cases hg
          refine .inr ⟨g', cap, _, rfl, q1, set_obj q2 _ _, q3, q4, by simpa using q5, ?_⟩
          rw [← hc.1] at q6 ⊢
          exact flat_set css hlen o hoc 4 (by omega) v' cur q6
  · simp only [List.length_set] at hi
    have hne2 : ∀ k, v'.ownBlock = some k → k ≠ g := fun k hk e => by
      subst e
      rcases hloc with e | e
      · rw [hk] at e; exact h.ne hg e.symm
      · rw [hk] at e; cases e; omega
    rw [getD_set hok]
    by_cases e : i = o
    · subst e
      simp only [if_true, List.getElem_set_self]
      exact owns_turn hv hS (fun k hk e => hne2 k hk e)
    · rw [if_neg e]
      simp only [List.getElem_set_ne (fun x => e x.symm)]
      refine owns_turn (owns_turn (h.kid i hi) hT (fun k hk hk2 => e (h.far i o k hk hk2))) hS (fun k hk e2 => ?_)
      subst e2
      exact h.ne hg hk
  · rw [kb_set hok] at hi hj
    by_cases e1 : i = o <;> by_cases e2 : j = o
    · rw [e1, e2]
    · rw [if_pos e1] at hi
      rw [if_neg e2] at hj
      rcases hloc with e | e
      · rw [hi] at e; exact absurd (h.far j o k hj e.symm) e2
      · rw [hi] at e; cases e; have := hold j _ hj; omega
    · rw [if_neg e1] at hi
      rw [if_pos e2] at hj
      rcases hloc with e | e
      · rw [hj] at e; exact absurd (h.far i o k hi e.symm) e1
      · rw [hj] at e; cases e; have := hold i _ hi; omega
    · rw [if_neg e1] at hi
      rw [if_neg e2] at hj
      exact h.far i j k hi hj
/-- a block without kids is put behind them -/
theorem BAt.push {w w' : World} {bv bv' : Value} {bs : List TBlk} {ks : List Value} (h : BAt w bv bs ks) (b : TBlk) (hb : b.kids = []) (css : List (List Value)) (hc : Chunks tR 5 css (bs.zip ks)) (h2 : w'.ownsRow 0 62 5 bv' (bs.length + 1) (css.flatten ++ tcells b (.slice none 0 0)))
    (hgr : w.grownBy w' bv.ownBlock) : BAt w' bv' (bs ++ [b]) (ks ++ [.slice none 0 0]) := by
  have hz : (bs ++ [b]).zip (ks ++ [.slice none 0 0]) = bs.zip ks ++ [(b, .slice none 0 0)] := by rw [List.zip_append h.len.symm]; rfl
  have hT : Turn (fun k => bv.ownBlock = some k) w w' := .grown hgr
  have hgd : ∀ i, (ks ++ [Value.slice none 0 0]).getD i (.slice none 0 0) = ks.getD i (.slice none 0 0) := fun i => by
    rw [List.getD_eq_getElem?_getD, List.getD_eq_getElem?_getD]
    by_cases hi : i < ks.length
    · rw [List.getElem?_append_left hi]
    · rw [List.getElem?_append_right (by omega), List.getElem?_eq_none (l := ks) (by omega)]
      cases i - ks.length <;> rfl
  refine ⟨by simp [h.len], ?_, fun i hi => ?_, fun i j g hi hj => ?_⟩
  · have hzl : (bs.zip ks).length = bs.length := by simp [h.len]
    refine ⟨css ++ [tcells b (.slice none 0 0)], ?_, ?_⟩
    · rw [hz]
      exact hc.append ⟨rfl, fun i h1 h2 => by
        have : i = 0 := by simp at h1; exact h1
        subst this
        exact ⟨rfl, tR_one _ (b, .slice none 0 0) ⟨rfl, rfl⟩, rfl, rfl⟩⟩
    · rw [hz, List.flatten_append, List.length_append, hzl]
      simpa using h2
  · rw [hgd]
    by_cases hi2 : i < bs.length
    · simp only [List.getElem_append_left hi2]
      exact owns_turn (h.kid i hi2) hT (fun k hk hk2 => h.ne hk2 hk)
    · have : i = bs.length := by simp at hi; omega
      subst this
      simp only [List.getElem_concat_length]
      rw [hb, show ks.getD bs.length (.slice none 0 0) = .slice none 0 0 from by rw [List.getD_eq_getElem?_getD, List.getElem?_eq_none (by rw [h.len]; omega)]; rfl]
      exact World.ownsRow_nil _ _ _ _
  · have e : ∀ i, kb (ks ++ [.slice none 0 0]) i = kb ks i := fun i => by unfold kb; rw [hgd]
    rw [e] at hi hj
    exact h.far i j g hi hj

/-- a block more -/
def layB (bs : List TBlk) (r : Int) (o : Nat) (s : Int) (k : Nat) : List TBlk := bs.set o ((tb bs o).grow (ins (tb bs o).kids k r)) ++ [⟨r, o, s, (tb bs o).high + 1, []⟩]
theorem layB_len (bs : List TBlk) (r : Int) (o : Nat) (s : Int) (k : Nat) : (layB bs r o s k).length = bs.length + 1 := by simp [layB]
theorem tb_lay (bs : List TBlk) (r : Int) (o : Nat) (s : Int) (k i : Nat) : tb (layB bs r o s k) i = if i < bs.length then (if i = o then (tb bs o).grow (ins (tb bs o).kids k r) else tb bs i) else if i = bs.length then ⟨r, o, s, (tb bs o).high + 1, []⟩ else tz := by
  unfold layB tb
  rw [List.getD_eq_getElem?_getD]
  by_cases h : i < bs.length
  · rw [if_pos h, List.getElem?_append_left (by simpa using h)]
    by_cases e : i = o
    · subst e
      rw [if_pos rfl, List.getElem?_set_self h]
      rfl
    · rw [if_neg e, List.getElem?_set_ne (fun x => e x.symm), ← List.getD_eq_getElem?_getD]
  · rw [if_neg h, List.getElem?_append_right (by simpa using h), List.length_set]
    by_cases e : i = bs.length
    · subst e; rw [if_pos rfl, Nat.sub_self]; rfl
    · rw [if_neg e, show i - bs.length = (i - bs.length - 1) + 1 by omega]
      simp
theorem root_lay (bs : List TBlk) (r : Int) (o : Nat) (s : Int) (k i : Nat) (h : i < bs.length) : (tb (layB bs r o s k) i).root = (tb bs i).root ∧ (tb (layB bs r o s k) i).par = (tb bs i).par ∧ (tb (layB bs r o s k) i).slot = (tb bs i).slot ∧ (tb (layB bs r o s k) i).high = (tb bs i).high := by
  rw [tb_lay, if_pos h]
  by_cases e : i = o
  · rw [if_pos e, e]; exact ⟨rfl, rfl, rfl, rfl⟩
  · rw [if_neg e]; exact ⟨rfl, rfl, rfl, rfl⟩
theorem idx_lay (bs : List TBlk) (r : Int) (o : Nat) (s : Int) (k : Nat) (hr : idx bs r = none) (x : Int) : idx (layB bs r o s k) x = if x = r then some bs.length else idx bs x := by
  have h1 : idx (bs.set o ((tb bs o).grow (ins (tb bs o).kids k r))) x = idx bs x := by
    unfold idx
    have e : ∀ (l : List TBlk) (q : Nat) (b : TBlk), (∀ y, l[q]? = some y → y.root = b.root) → (l.set q b).findIdx? (fun b => b.root == x) = l.findIdx? (fun b => b.root == x) := by
      intro l
      induction l with
      | nil => intro q b _; rfl
      | cons y l ih =>
        intro q b hb
        cases q with
        | zero =>
          have := hb y rfl
          simp only [List.set_cons_zero, List.findIdx?_cons, this]
        | succ q =>
          simp only [List.set_cons_succ, List.findIdx?_cons]
          rw [ih q b (fun y hy => hb y (by simpa using hy))]
    refine e bs o _ (fun y hy => ?_)
    show y.root = (tb bs o).root
    rw [tb, List.getD_eq_getElem?_getD, hy]
    rfl
  have h2 : idx (layB bs r o s k) x = (idx (bs.set o ((tb bs o).grow (ins (tb bs o).kids k r))) x).or ((idx [⟨r, o, s, (tb bs o).high + 1, []⟩] x).map (· + bs.length)) := by
    unfold idx layB
    rw [List.findIdx?_append]
    simp
  rw [h2, h1]
  by_cases e : x = r
  · subst e
    rw [hr]
    simp [idx, List.findIdx?_cons]
  · rw [if_neg e]
    have : idx [⟨r, o, s, (tb bs o).high + 1, []⟩] x = none := by simp [idx, List.findIdx?_cons]; exact fun h => e h.symm
    rw [this]
    cases idx bs x <;> rfl
theorem ins_mem {xs : List Int} {k : Nat} {r x : Int} : x ∈ ins xs k r ↔ x = r ∨ x ∈ xs := by
  rw [ins, List.mem_append, List.mem_cons]
  have := List.take_append_drop k xs
  constructor
  · rintro (h | h | h)
    · exact .inr (List.mem_of_mem_take h)
    · exact .inl h
    · exact .inr (List.mem_of_mem_drop h)
  · rintro (h | h)
    · exact .inr (.inl h)
    · rw [← this, List.mem_append] at h
      rcases h with h | h
      · exact .inl h
      · exact .inr (.inr h)
theorem ins_rise {xs : List Int} {k : Nat} {r : Int} (h : xs.Pairwise (· < ·)) (hk : k ≤ xs.length) (hs : Spot xs r k k) (hn : r ∉ xs) : (ins xs k r).Pairwise (· < ·) := by
  obtain ⟨h1, h2⟩ := hs h
  have lo : ∀ x ∈ xs.take k, x < r := fun x hx => by
    obtain ⟨t, ht, e⟩ := List.getElem_of_mem hx
    have ht2 : t < k ∧ t < xs.length := by simp at ht; omega
    have := h1 t ht2.1
    rw [List.getD_eq_getElem?_getD, List.getElem?_eq_getElem ht2.2] at this
    rw [← e, List.getElem_take]
    exact this
  have hi : ∀ x ∈ xs.drop k, r < x := fun x hx => by
    obtain ⟨t, ht, e⟩ := List.getElem_of_mem hx
    have ht2 : k + t < xs.length := by simp at ht; omega
    have := h2 (k + t) (by omega) ht2
    rw [List.getD_eq_getElem?_getD, List.getElem?_eq_getElem ht2] at this
    rw [List.getElem_drop] at e
    have hne : r ≠ x := fun e2 => hn (by rw [e2]; exact List.mem_of_mem_drop hx)
    have h3 : r ≤ x := by rw [← e]; exact this
    omega
  rw [ins, List.pairwise_append, List.pairwise_cons]
  refine ⟨h.sublist (List.take_sublist _ _), ⟨hi, h.sublist (List.drop_sublist _ _)⟩, fun a ha b hb => ?_⟩
  rcases List.mem_cons.1 hb with rfl | hb
  · exact lo a ha
  · exact Int.lt_trans (lo a ha) (hi b hb)
theorem layB_ok {bs : List TBlk} {r : Int} {o : Nat} {s : Int} {k : Nat} (h : TOk bs) (hr : idx bs r = none) (hU : U64 r) (hs : I64 s) (ho : o < bs.length) (hl : bs.length < 1024) (hk : k ≤ (tb bs o).kids.length) (hsp : Spot (tb bs o).kids r k k) : TOk (layB bs r o s k) := by
  have old := root_lay bs r o s k
  have new : tb (layB bs r o s k) bs.length = ⟨r, o, s, (tb bs o).high + 1, []⟩ := by rw [tb_lay, if_neg (by omega), if_pos rfl]
  have hlen := layB_len bs r o s k
  have cases2 : ∀ i, i < (layB bs r o s k).length → i < bs.length ∨ i = bs.length := fun i hi => by omega
  have hne := fun i hi => idx_none hr i hi
  have hnk : ∀ i, i < bs.length → r ∉ (tb bs i).kids := fun i hi hm => by
    obtain ⟨j, _, h1, _, h2⟩ := (h.km i hi r).1 hm
    exact hne j h1 h2
  have kid : ∀ i, i < bs.length → (tb (layB bs r o s k) i).kids = if i = o then ins (tb bs o).kids k r else (tb bs i).kids := fun i hi => by
    rw [tb_lay, if_pos hi]
    by_cases e : i = o
    · rw [if_pos e, if_pos e]; rfl
    · rw [if_neg e, if_neg e]
  refine ⟨by omega, by omega, fun i h0 hi => ?_, ?_, fun i j hi hj e => ?_, fun i hi => ?_, fun i hi => ?_, fun i hi => ?_, fun i hi => ?_, ?_, fun i h0 hi => ?_, fun i hi => ?_, fun i hi x => ?_⟩
  · rcases cases2 i hi with h1 | rfl
    · rw [(old i h1).2.1]; exact h.par i h0 h1
    · rw [new]; exact ho
  · rw [(old 0 h.pos).2.1]; exact h.par0
  · rcases cases2 i hi with h1 | rfl <;> rcases cases2 j hj with h2 | rfl
    · rw [(old i h1).1, (old j h2).1] at e; exact h.one i j h1 h2 e
    · rw [(old i h1).1, new] at e; exact absurd e (hne i h1)
    · rw [(old j h2).1, new] at e; exact absurd e.symm (hne j h2)
    · rfl
  · rcases cases2 i hi with h1 | rfl
    · rw [(old i h1).1]; exact h.root i h1
    · rw [new]; exact hU
  · rcases cases2 i hi with h1 | rfl
    · rw [(old i h1).2.2.1]; exact h.slot i h1
    · rw [new]; exact hs
  · rcases cases2 i hi with h1 | rfl
    · rw [(old i h1).2.2.2]; exact h.high i h1
    · rw [new]
      have := h.high o ho
      show (tb bs o).high + 1 ≤ bs.length
      omega
  · rcases cases2 i hi with h1 | rfl
    · rw [tb_lay, if_pos h1]
      by_cases e : i = o
      · rw [if_pos e]
        have := h.kids o ho
        show (ins (tb bs o).kids k r).length ≤ _
        rw [ins_len _ _ _ hk]
        omega
      · rw [if_neg e]
        have := h.kids i h1
        omega
    · rw [new]; exact Nat.zero_le _
  · rw [(old 0 h.pos).2.2.2]; exact h.high0
  · rcases cases2 i hi with h1 | rfl
    · have hp := h.par_le h1
      rw [(old i h1).2.1, (old i h1).2.2.2, (old _ hp).2.2.2]; exact h.step i h0 h1
    · rw [new]
      show (tb bs o).high + 1 = (tb (layB bs r o s k) o).high + 1
      rw [(old o ho).2.2.2]
  · rcases cases2 i hi with h1 | rfl
    · rw [kid i h1]
      by_cases e : i = o
      · rw [if_pos e]; exact ins_rise (h.kr o ho) hk hsp (hnk o ho)
      · rw [if_neg e]; exact h.kr i h1
    · rw [new]; exact List.Pairwise.nil
  · have hj : ∀ i, i < bs.length → ((∃ j, 0 < j ∧ j < (layB bs r o s k).length ∧ (tb (layB bs r o s k) j).par = i ∧ (tb (layB bs r o s k) j).root = x) ↔ ((∃ j, 0 < j ∧ j < bs.length ∧ (tb bs j).par = i ∧ (tb bs j).root = x) ∨ (i = o ∧ x = r))) := fun i h1 => by
      constructor
      · rintro ⟨j, a, b, c, d⟩
        rcases cases2 j b with b | rfl
        · rw [(old j b).2.1] at c; rw [(old j b).1] at d; exact .inl ⟨j, a, b, c, d⟩
        · rw [new] at c d; exact .inr ⟨c.symm, d.symm⟩
      · rintro (⟨j, a, b, c, d⟩ | ⟨rfl, rfl⟩)
        · exact ⟨j, a, by omega, by rw [(old j b).2.1]; exact c, by rw [(old j b).1]; exact d⟩
        · exact ⟨bs.length, h.pos, by omega, by rw [new], by rw [new]⟩
    rcases cases2 i hi with h1 | rfl
    · rw [kid i h1, hj i h1, ← h.km i h1 x]
      by_cases e : i = o
      · rw [if_pos e, e, ins_mem]
        simp [or_comm]
      · rw [if_neg e]
        simp [e]
    · rw [new]
      constructor
      · intro h; simp at h
      · rintro ⟨j, a, b, c, d⟩
        rcases cases2 j b with b | rfl
        · rw [(old j b).2.1] at c; have := h.par_le b; omega
        · rw [new] at c; change o = _ at c; omega
/-- what lay leaves -/
def Laid (F : Nat → Prop) (p : Nat) (bs : List TBlk) (r : Int) (o : Nat) (s : Int) (w : World) (e : Ending) (w' : World) : Prop :=
  e = .returned (.tuple #[]) ∧ w'.cell? ⟨p, 1, none⟩ = w.cell? ⟨p, 1, none⟩ ∧ ∃ F' k, TAt w' F' p (layB bs r o s k) ∧ k ≤ (tb bs o).kids.length ∧ Spot (tb bs o).kids r k k ∧ Turn F w w' ∧ ∀ i, F' i → F i ∨ w.heap.size ≤ i

set_option maxRecDepth 100000 in
set_option maxHeartbeats 2000000 in
theorem lay_any (F : Nat → Prop) (p : Nat) (bs : List TBlk) (r : Int) (o : Nat) (s : Int) (w : World) (hT : TAt w F p bs) (hO : TOk bs) (hr : idx bs r = none) (hU : U64 r) (hs : I64 s) (ho : o < bs.length) (hl : bs.length < 1024) :
    Calls Try.prog 25 #[.pointer (some ⟨p, 0, none⟩), .int .u64 r, .int .i64 (o : Int), .int .i64 s] w (Laid F p bs r o s w) := by
  obtain ⟨mb, bv, ks, hP, hB, hM, hFp, hFm, hFb⟩ := hT
  obtain ⟨ao, c, rfl, hc, hcm, hcell⟩ := hB.cells
  obtain ⟨g, rfl, hgw, hco⟩ := hcell o ho
  clear hcell
  obtain ⟨n, hn⟩ : ∃ n, Hid (bs.length = n) := ⟨_, rfl⟩
  have hkid := hB.kid o ho
  have hkl := hO.kids o ho
  rw [← tb_lt ho] at hkid hco
  obtain ⟨kv, hkv⟩ : ∃ kv, Hid (ks.getD o (.slice none 0 0) = kv) := ⟨_, rfl⟩
  rw [hkv.out] at hkid hco
  obtain ⟨ka, kc, rfl, hRow⟩ := RowIn.ofOwned hkid
  obtain ⟨m, hm⟩ : ∃ m, Hid ((tb bs o).kids.length = m) := ⟨_, rfl⟩
  have c0 := hP.cell 0
  have c1 := hP.cell 1
  simp only [List.getElem?_toArray, List.getElem?_cons_zero, List.getElem?_cons_succ] at c0 c1
  have k4 := hco 4 (by omega)
  have k3 := hco 3 (by omega)
  simp only [tcells, List.getElem?_cons_zero, List.getElem?_cons_succ] at k4 k3
  have hb := bsearch_any (tb bs o).kids ka (tb bs o).kids.length kc r w hRow (by omega)
  have hknb : (Value.slice ka (tb bs o).kids.length kc).ownBlock ≠ some w.heap.size := fun e => by
    have := (hkid.lt _ e).2
    omega
  have hmk : (tb bs o).kids.length ≤ 4294967296 := by have := hO.lim; omega
  have HI := fun k (hk : k ≤ (tb bs o).kids.length) => insert_any 0 (tb bs o).kids _ (tb bs o).kids.length k r (w.alloc (.cells #[.int .u64 r] 29)) w.heap.size (hkid.alloc _) (OAt.new _ _) hknb hk hmk (Nat.zero_le _)
  have hoi : (o : Int) < (bs.length : Int) := by omega
  have hon : o < bs.length := ho
  have hFg : F g := hFb g (.inl rfl)
  have hpg : p ≠ g := fun e => by
    subst e
    obtain ⟨C, t, hb2, ht⟩ := hB.block (.inl (show (Value.slice (some ⟨p, 0, none⟩) bs.length c).ownBlock = some p from rfl))
    rw [hP.at_] at hb2
    cases hb2
    rcases ht with ht | ht <;> cases ht
  have hmg : mb ≠ g := fun e => by
    subst e
    obtain ⟨C, t, hb2, _⟩ := hB.block (.inl (show (Value.slice (some ⟨mb, 0, none⟩) bs.length c).ownBlock = some mb from rfl))
    exact hM.notCells hb2
  have hpm : p ≠ mb := fun e => by subst e; exact hM.notCells hP.at_
  have hkp : kb ks o ≠ some p := fun e => by
    obtain ⟨C, t, hb2, ht⟩ := hB.block (.inr ⟨o, e⟩)
    rw [hP.at_] at hb2
    cases hb2
    rcases ht with ht | ht <;> cases ht
  have hkm : kb ks o ≠ some mb := fun e => by
    obtain ⟨C, t, hb2, ht⟩ := hB.block (.inr ⟨o, e⟩)
    exact hM.notCells hb2
  have hkbo : kb ks o = (Value.slice ka (tb bs o).kids.length kc).ownBlock := by unfold kb; rw [hkv.out]
  obtain ⟨H, hH⟩ : ∃ H : Nat, Hid ((tb bs o).high = H) := ⟨_, rfl⟩
  rw [hH.out] at k3
  have hHb : H ≤ 1024 := by have := hO.high o ho; rw [hH.out] at this; have := hO.lim; omega
  have HB := hide hb
  have HI2 := hide HI
  have HP := hide hP
  have HBA := hide hB
  have HM := hide hM
  have HC1 := hide c1
  have HK := hide (⟨hFp, hFm, hFb, hFg, hkp, hkm, hkbo, hO, hr, hU, hs, hc, hcm⟩ : F p ∧ F mb ∧ (∀ k, bfoot (.slice (some ⟨g, 0, none⟩) bs.length c) ks k → F k) ∧ F g ∧ kb ks o ≠ some p ∧ kb ks o ≠ some mb ∧ kb ks o = (Value.slice ka (tb bs o).kids.length kc).ownBlock ∧ TOk bs ∧ idx bs r = none ∧ U64 r ∧ I64 s ∧ bs.length ≤ c ∧ c ≤ maxLen)
  have HKid := hide hkid
  clear hb HI hP hB hM hFp hFm hFb hFg hkp hkm hkbo hO hr hU hs hkid hRow hkl hmk hknb ho hkv hco hc hcm
  obtain ⟨m', hm'⟩ : ∃ m', Hid ((tb bs o).kids.length = m') := ⟨_, rfl⟩
  rw [hm'.out] at k4 HB HI2 HKid
  rw [hn.out] at c0 hoi hon hl HP HBA
  go_enter Try.func25, Try.ntmps25
  go_wp2_with (go_at_call 29; refine HB.out.mono ?_; rintro e w' ⟨k, b, rfl, hk, hS, hw⟩; obtain rfl : _ = w' := hw.symm)
  clear HB
  have HSP := hide hS
  clear hS hw
  refine (HI2.out k hk).mono ?_
  rintro e w2 ⟨v', rfl, hown, hgr, hloc⟩
  clear HI2
  obtain ⟨va, vc, rfl, _⟩ := RowIn.ofOwned hown
  obtain ⟨W1, hW1⟩ : ∃ x, w.alloc (.cells #[.int .u64 r] 29) = x := ⟨_, rfl⟩
  have hsz1 : W1.heap.size = w.heap.size + 1 := by rw [← hW1]; simp
  have hbW : Below w.heap.size w W1 := by rw [← hW1]; exact below_alloc _ _
  rw [hW1] at hgr hloc
  have bA : BAt W1 (.slice (some ⟨g, 0, none⟩) n c) bs ks := HBA.out.turn (F := fun _ => False) (.of hbW) (fun _ _ h => h)
  have hkbo := HK.out.2.2.2.2.2.2.1
  have hkbo2 : kb ks o = (Value.slice ka m' kc).ownBlock := by rw [hkbo, hm'.out]
  rw [← hkbo2] at hgr hloc
  have T12 : Turn (fun k => kb ks o = some k) W1 w2 := .grown hgr
  have hng : ¬ kb ks o = some g := HBA.out.ne rfl
  have hg2 : w2.heap[g]? = w.heap[g]? := (T12.block g (by omega) hng).trans (hbW.block g hgw)
  have e4 : w2.cell? ⟨g, o * 5 + 4, none⟩ = some (.slice ka m' kc) := (World.cell?_of_block (a := ⟨g, o * 5 + 4, none⟩) hg2).trans k4
  have e3 : w2.cell? ⟨g, o * 5 + 3, none⟩ = some (.int .i64 (H : Int)) := (World.cell?_of_block (a := ⟨g, o * 5 + 3, none⟩) hg2).trans k3
  have f4 : w2.frozen? ⟨g, o * 5 + 4, none⟩ = false := by
    rw [World.frozen?_of_block (a := ⟨g, o * 5 + 4, none⟩) hg2]
    obtain ⟨css, hc, ho⟩ := HBA.out.row
    rcases ho.2 with ⟨e, _⟩ | ⟨g', cap, cur, e, _, hb2, _⟩
    · cases e
    · cases e
      unfold World.frozen?
      rw [hb2]
      simp
  have hloc2 : (Value.slice va (m' + 1) vc).ownBlock = kb ks o ∨ (Value.slice va (m' + 1) vc).ownBlock = some W1.heap.size := hloc
  have hzl : (ins (tb bs o).kids k r).length = m' + 1 := by rw [ins_len _ _ _ (by rw [hm'.out]; exact hk), hm'.out]
  have bB : BAt (w2.setCell ⟨g, o * 5 + 4, none⟩ (.slice va (m' + 1) vc)) (.slice (some ⟨g, 0, none⟩) n c) (bs.set o ((tb bs o).grow (ins (tb bs o).kids k r))) (ks.set o (.slice va (m' + 1) vc)) :=
    bA.setKid (by rw [hn.out]; exact hon) rfl (by rw [hzl]; exact hown) hgr hloc2 rfl
  have T23 : Turn (fun k => k = g) w2 (w2.setCell ⟨g, o * 5 + 4, none⟩ (.slice va (m' + 1) vc)) := .apart ((Apart.refl g w2).set _ _)
  have oA : OAt (w2.setCell ⟨g, o * 5 + 4, none⟩ (.slice va (m' + 1) vc)) p (.cells #[.slice (some ⟨g, 0, none⟩) n c, .map (some mb)] 59) := ((HP.out.below hbW).turn T12 HK.out.2.2.2.2.1).turn T23 hpg
  have mA : MapP (w2.setCell ⟨g, o * 5 + 4, none⟩ (.slice va (m' + 1) vc)) mb bs.length (idx bs) := by
    have m1 := HM.out.of (hbW.block mb HM.out.lt)
    have m2 := m1.of (T12.block mb m1.lt HK.out.2.2.2.2.2.1)
    exact m2.of (T23.block mb m2.lt hmg)
  have tA : Turn F w (w2.setCell ⟨g, o * 5 + 4, none⟩ (.slice va (m' + 1) vc)) := by
    refine ((Turn.of (F := F) hbW).trans T12 (fun i hi => .inl (HK.out.2.2.1 i (.inr ⟨o, hi⟩)))).trans T23 (fun i hi => .inl ?_)
    rw [hi]
    exact HK.out.2.2.2.1
  have fA : ∀ i, bfoot (.slice (some ⟨g, 0, none⟩) n c) (ks.set o (.slice va (m' + 1) vc)) i → F i ∨ w.heap.size ≤ i := by
    intro i hi
    rcases hi with hi | ⟨q, hi⟩
    · exact .inl (HK.out.2.2.1 i (.inl hi))
    · rw [kb_set (by rw [HBA.out.len, hn.out]; exact hon)] at hi
      by_cases e : q = o
      · rw [if_pos e] at hi
        rcases hloc2 with e2 | e2
        · exact .inl (HK.out.2.2.1 i (.inr ⟨o, by rw [← e2]; exact hi⟩))
        · rw [hi] at e2
          cases e2
          exact .inr (by omega)
      · rw [if_neg e] at hi
        exact .inl (HK.out.2.2.1 i (.inr ⟨q, hi⟩))
  have HBB := hide bB
  have HOA := hide oA
  have HMA := hide mA
  have HTA := hide tA
  have HFA := hide fA
  have HG2 := hide hg2
  clear bB oA mA tA fA hg2 bA T12 T23 hgr hloc hloc2 hown hbW hsz1 HBA HP HM hkbo hkbo2 hng hW1 hzl
  go_upto_region 4 with fail
  clear e4 e3 f4 c0 c1 k3 k4
  generalize w2.setCell ⟨g, o * 5 + 4, none⟩ (.slice va (m' + 1) vc) = w3 at HBB HOA HMA HTA ⊢
  clear HG2 hgw HKid
  have c0 := HOA.out.cell 0
  have c1 := HOA.out.cell 1
  simp only [List.getElem?_toArray, List.getElem?_cons_zero, List.getElem?_cons_succ] at c0 c1
  obtain ⟨w4, hrun, hm4, hg4⟩ := (HMA.out.of (w' := w3.drew) rfl).put r n HK.out.2.2.2.2.2.2.2.2.2.1 (by omega) (by rw [hn.out]; unfold maxLen; omega)
  have T4 : Turn (fun k => some mb = some k) w3.drew w4 := .grown hg4
  have HM4 := hide hm4
  have HT4 := hide T4
  clear hm4 hg4 T4
  go_region
  clear hrun c0 c1
  have bC : BAt w4 (.slice (some ⟨g, 0, none⟩) n c) (bs.set o ((tb bs o).grow (ins (tb bs o).kids k r))) (ks.set o (.slice va (m' + 1) vc)) := by
    have b1 := HBB.out.turn (F := fun _ => False) (w' := w3.drew) (Turn.refl _ _).drew (fun _ _ h => h)
    exact b1.turn HT4.out (fun q hq e => by
      cases e
      obtain ⟨C, t, hb2, _⟩ := b1.block hq
      exact (HMA.out.of (w' := w3.drew) rfl).notCells hb2)
  have oC : OAt w4 p (.cells #[.slice (some ⟨g, 0, none⟩) n c, .map (some mb)] 59) := (OAt.drew HOA.out).turn HT4.out (fun e => hpm (Option.some.inj e).symm)
  have tC : Turn F w w4 := HTA.out.drew.trans HT4.out (fun i hi => by cases hi; exact .inl HK.out.2.1)
  obtain ⟨css, hcs, hrow⟩ := bC.row
  have hbl : (bs.set o ((tb bs o).grow (ins (tb bs o).kids k r))).length = n := by rw [List.length_set]; exact hn.out
  have hzl : ((bs.set o ((tb bs o).grow (ins (tb bs o).kids k r))).zip (ks.set o (.slice va (m' + 1) vc))).length = n := by rw [List.length_zip, bC.len, hbl, Nat.min_self]
  rw [hzl] at hrow
  have c0 := oC.cell 0
  simp only [List.getElem?_toArray, List.getElem?_cons_zero] at c0
  have f0 : w4.frozen? ⟨p, 0, none⟩ = false := by unfold World.frozen?; rw [oC.at_]; simp
  have HBC := hide bC
  have HOC := hide oC
  have HTC := hide tC
  have HROW := hide hrow
  have HCS := hide hcs
  clear bC oC tC hrow hcs HBB HOA HMA HTA HT4
  obtain ⟨i0, hi, hz0, hz1, hz2⟩ := info_parts (show (Try.prog.info? 62).map (fun i => (i.zero, i.size, i.bytes)) = some (some (.agg #[.int .u64 0, .int .i64 0, .int .i64 0, .int .i64 0, .slice none 0 0]), 5, 56) by kernel_rfl)
  have hc1 : n + 1 ≤ maxLen := by unfold maxLen; omega
  have hc2 : (n + 1) * 56 ≤ 140737488355328 := by omega
  have hcn : Hid (∀ j u, [Value.int .u64 r, .int .i64 (o : Int), .int .i64 s, .int .i64 ((H : Int) + 1), .slice none 0 0][j]? = some u → (w4.alloc (.cells #[.int .u64 r, .int .i64 (o : Int), .int .i64 s, .int .i64 ((H : Int) + 1), .slice none 0 0] 62)).cell? ((⟨w4.heap.size, 0, none⟩ : Addr).add j) = some u) := fun j u hj => by
    rw [Addr.add_lit, (OAt.new w4 _).cell, Nat.zero_add]
    simpa using hj
  go_wp2_with (at_builtin; refine stopHere ?_)
  unfold Stop
  refine wpList_append_own_at _ rfl _ _ 57 rfl 0 62 i0 (.agg #[.int .u64 0, .int .i64 0, .int .i64 0, .int .i64 0, .slice none 0 0]) 5 56 Try.underlying57 hi hz0 hz1 hz2 rfl (by decide) (.slice (some ⟨g, 0, none⟩) n c) n css.flatten rfl (HROW.out.alloc _) ⟨w4.heap.size, 0, none⟩ 1 1 [.int .u64 r, .int .i64 (o : Int), .int .i64 s, .int .i64 ((H : Int) + 1), .slice none 0 0] rfl rfl hcn.out (by simp [Value.oneCell']) hc1 hc2 (Nat.zero_le _) ?_
  intro bv' w6 hown6 hg6 hnil6 hloc6
  obtain ⟨W5, hW5⟩ : ∃ x, w4.alloc (.cells #[.int .u64 r, .int .i64 (o : Int), .int .i64 s, .int .i64 ((H : Int) + 1), .slice none 0 0] 62) = x := ⟨_, rfl⟩
  have hb5 : Below w4.heap.size w4 W5 := by rw [← hW5]; exact below_alloc _ _
  rw [hW5] at hg6 hloc6
  have T6 : Turn (fun k => (Value.slice (some ⟨g, 0, none⟩) n c).ownBlock = some k) W5 w6 := .grown hg6
  have oD : OAt w6 p (.cells #[.slice (some ⟨g, 0, none⟩) n c, .map (some mb)] 59) := (HOC.out.below hb5).turn T6 (fun e => hpg (by cases e; rfl))
  have b5 : BAt W5 (.slice (some ⟨g, 0, none⟩) n c) (bs.set o ((tb bs o).grow (ins (tb bs o).kids k r))) (ks.set o (.slice va (m' + 1) vc)) := HBC.out.turn (F := fun _ => False) (.of hb5) (fun _ _ h => h)
  have b6 := b5.push ⟨r, o, s, H + 1, []⟩ rfl css HCS.out (by rw [hbl]; simpa [tcells] using hown6) hg6
  have hform : ∃ va' vc', bv' = .slice va' (n + 1) vc' := by
    rcases hown6.2 with ⟨_, h⟩ | ⟨g', cap, cur, h, _⟩
    · omega
    · exact ⟨_, _, h⟩
  obtain ⟨va', vc', rfl⟩ := hform
  have S7 : Turn (fun k => k = p) w6 (w6.setCell ⟨p, 0, none⟩ (.slice va' (n + 1) vc')) := .apart ((Apart.refl p w6).set _ _)
  have c6 := oD.cell 0
  have f6 : w6.frozen? ⟨p, 0, none⟩ = false := by unfold World.frozen?; rw [oD.at_]; simp
  simp only [List.getElem?_toArray, List.getElem?_cons_zero] at c6
  have hend : Hid (Laid F p bs r o s w (.returned (.tuple #[])) (w6.setCell ⟨p, 0, none⟩ (.slice va' (n + 1) vc'))) := by
    have hsz : w.heap.size ≤ W5.heap.size := Nat.le_trans HTC.out.size hb5.size
    have hlb : layB bs r o s k = bs.set o ((tb bs o).grow (ins (tb bs o).kids k r)) ++ [⟨r, o, s, H + 1, []⟩] := by rw [layB, hH.out]
    have hfoot : ∀ i, bfoot (.slice va' (n + 1) vc') (ks.set o (.slice va (m' + 1) vc) ++ [.slice none 0 0]) i → F i ∨ w.heap.size ≤ i := by
      intro i hi
      rcases hi with hi | ⟨q, hi⟩
      · rcases hloc6 with e | e
        · rw [e] at hi; exact HFA.out i (.inl hi)
        · rw [e] at hi; cases hi; exact .inr hsz
      · refine HFA.out i (.inr ⟨q, ?_⟩)
        rw [← hi]
        unfold kb
        congr 1
        rw [List.getD_eq_getElem?_getD, List.getD_eq_getElem?_getD]
        by_cases hq : q < (ks.set o (.slice va (m' + 1) vc)).length
        · rw [List.getElem?_append_left hq]
        · rw [List.getElem?_append_right (by omega), List.getElem?_eq_none (l := ks.set o (.slice va (m' + 1) vc)) (by omega)]
          cases q - (ks.set o (.slice va (m' + 1) vc)).length <;> rfl
    refine ⟨rfl, ?_, fun i => F i ∨ w.heap.size ≤ i, k, ⟨mb, .slice va' (n + 1) vc', _, ?_, ?_, ?_, .inl HK.out.1, .inl HK.out.2.1, hfoot⟩, by rw [hm'.out]; exact hk, HSP.out, ?_, fun i hi => hi⟩
    · rw [(OAt.of (set_obj oD.at_ 0 _)).cell, HC1.out]
      rfl
    · exact OAt.of (set_obj oD.at_ 0 _)
    · rw [hlb]
      exact b6.turn S7 (fun q hq e => by
        subst e
        obtain ⟨C, t, hb2, ht⟩ := b6.block hq
        rw [oD.at_] at hb2
        cases hb2
        rcases ht with ht | ht <;> cases ht)
    · rw [layB_len]
      have m5 := HM4.out.of (hb5.block mb HM4.out.lt)
      have m6 := m5.of (T6.block mb m5.lt (fun e => hmg (by cases e; rfl)))
      have m7 := m6.of (S7.block mb m6.lt (fun e => hpm e.symm))
      refine m7.congr fun x => ?_
      rw [idx_lay bs r o s k HK.out.2.2.2.2.2.2.2.2.1, hn.out]
    · refine ((HTC.out.trans (.of hb5) (fun _ h => h.elim) (G := fun _ => False)).trans T6 (fun i hi => .inl ?_)).trans S7 (fun i hi => .inl ?_)
      · cases hi; exact HK.out.2.2.2.1
      · rw [hi]; exact HK.out.1
  clear hown6 hg6 hnil6 hloc6 T6 b5 b6 S7 hb5 oD HM4 HBC HOC HTC HROW HCS hcn c0 f0 hW5
  go_wp2
  go_end0
  exact hend.out
end Go.Proofs.Ytfkabmgbcdoijaa
