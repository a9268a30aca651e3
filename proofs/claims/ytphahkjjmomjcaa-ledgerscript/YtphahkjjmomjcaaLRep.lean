/- Chains that are handed in as functions; contracts of ledger.checkpoint. -/
import Derived.Test.YtphahkjjmomjcaaEpEnds

import Derived.Test.YtphahkjjmomjcaaCfMake

import Derived.Test.YtphahkjjmomjcaaJNext

namespace Go.Proofs.Ytphahkjjmomjcaa

open Go.ChangeShapes Go.WideShapes Go.ChangeAt Go.RowKit

set_option linter.unusedVariables false

def I64s (r : Int) : Prop := -9223372036854775808 ≤ r ∧ r ≤ 9223372036854775807
/-- a chain, as a function value -/
abbrev chv (F : Nat) (cap : Array Value) : Value := .func (.func F) #[] cap
/-- a function of the program's own -/
def Enters (F : Nat) : Prop := ∀ (args : Array Value) (w : World), (callFunc F args).run Try.prog w = .ok (.enter F args) w
/-- what a chain tells, now and as long as what it reads is not written -/
def ChainOf (w : World) (F : Nat) (cap : Array Value) (f : Int → Int) : Prop := ∀ (w' : World) (s : Int), Below w.heap.size w w' → I64s s → Calls Try.prog F (#[.int .i64 s] ++ cap) w' fun e w'' => e = .returned (.int .u64 (f s)) ∧ w'' = w'
theorem ChainOf.below {w w' : World} {F : Nat} {cap : Array Value} {f : Int → Int} (h : ChainOf w F cap f) (hb : Below w.heap.size w w') : ChainOf w' F cap f := fun w2 s h2 hs => h w2 s (hb.trans (h2.mono hb.size)) hs
theorem ChainOf.alloc {w : World} {F : Nat} {cap : Array Value} {f : Int → Int} (h : ChainOf w F cap f) (o : Obj) : ChainOf (w.alloc o) F cap f := h.below (below_alloc _ _)

/-- an epoch's first slot -/
def stI (e s : Int) : Int := wrap64 (lo0 e * lo1 s)
theorem stI_b (e s : Int) : I64s (stI e s) := by unfold stI I64s wrap64; omega

set_option maxRecDepth 100000 in
set_option maxHeartbeats 400000 in
theorem check_any (F : Nat) (cap : Array Value) (f : Int → Int) (a : Option Addr) (l c : Nat) (s b e : Int) (w : World) (hF : Enters F) (hC : ChainOf w F cap f) (he : I64s e) (hs : I64s s) :
    Calls Try.prog 62 #[.agg #[.slice a l c, .int .i64 s, .int .i64 b], .int .i64 e, chv F cap] w fun x w' => x = .returned (.agg (pcells (lo0 e) (f (stI e s)))) ∧ Below w.heap.size w w' := by
  have HC := hide ((hC.alloc (cfg a l c s b)).alloc (.cells (pcells 0 0) 62))
  unfold Enters at hF
  have HN := hide (((Below.refl w.heap.size w).alloc (Nat.le_refl _) (cfg a l c s b)).alloc (by simp) (.cells (pcells (lo0 e) (f (stI e s))) 62))
  clear hC
  obtain ⟨R, hR⟩ : ∃ R, Hid (f (stI e s) = R) := ⟨_, rfl⟩
  rw [hR.out] at HN ⊢
  by_cases h0 : e < 0
  all_goals
    have h0' := h0
    go_enter Try.func62, Try.ntmps62
    go_wp2_with (go_at_call 31; refine (start_any _ _ _ he hs).mono ?_; rintro e w' ⟨rfl, hw⟩; obtain rfl : _ = w' := hw.symm)
    refine (HC.out _ _ (Below.refl _ _) (stI_b e s)).mono ?_
    rintro x w1 ⟨hx, hw1⟩
    obtain rfl : _ = w1 := hw1.symm
    rw [hR.out] at hx
    subst hx
    clear HC hR
    go_wp2
  · rw [show lo0 e = 0 from if_pos h0] at HN ⊢
    refine bodyPost_ret (v := .agg (pcells 0 R)) (by simp [results, Try.results62, go_sem]) rfl ⟨rfl, HN.out⟩
  · rw [show lo0 e = e from if_neg (by omega)] at HN ⊢
    refine bodyPost_ret (v := .agg (pcells e R)) (by simp [results, Try.results62, go_sem]) rfl ⟨rfl, HN.out⟩

/-- the chain of the laws: n blocks a slot, from 1 on -/
def chf (n s : Int) : Int := ((s.tdiv (1 + n % 9)) % 18446744073709551616 + 1) % 18446744073709551616
theorem enters_law : Enters 47 := fun args w => by kernel_rfl
theorem enters_awake : Enters 46 := fun args w => by kernel_rfl
theorem awake_chain (w : World) : ChainOf w 46 #[] (fun s => (s + 100) % 18446744073709551616) := fun w' s hb hs => by
  unfold I64s at hs
  go_enter Try.func46, Try.ntmps46
  go_wp2
  go_ret
  refine ⟨ret_int ?_, rfl⟩
  simp only [IntKind.wrap_u64]
  omega
theorem law_chain (n : Int) (hn : 0 ≤ n ∧ n ≤ 255) (b : Nat) (w : World) (hO : OAt w b (.cells #[.int .u8 n] 5)) : ChainOf w 47 #[.pointer (some ⟨b, 0, none⟩)] (chf n) := fun w' s hb hs => by
  unfold I64s at hs
  have c0 := (hO.below hb).cell 0
  simp only [List.getElem?_toArray, List.getElem?_cons_zero] at c0
  show Calls _ _ #[.int .i64 s, .pointer (some ⟨b, 0, none⟩)] _ _
  go_enter Try.func47, Try.ntmps47
  go_wp2
  go_ret
  exact ⟨ret_int (by simp only [IntKind.wrap_u64, chf]), rfl⟩
theorem chain_any (n : Int) (hn : 0 ≤ n ∧ n ≤ 255) (w : World) : Calls Try.prog 25 #[.int .u8 n] w fun e w' => ∃ cap, e = .returned (chv 47 cap) ∧ ChainOf w' 47 cap (chf n) ∧ Below w.heap.size w w' := by
  have H := hide (law_chain n hn w.heap.size _ (OAt.new w (.cells #[.int .u8 n] 5)))
  go_enter Try.func25, Try.ntmps25
  go_wp2
  go_ret
  exact ⟨_, rfl, H.out, below_alloc _ _⟩
end Go.Proofs.Ytphahkjjmomjcaa
