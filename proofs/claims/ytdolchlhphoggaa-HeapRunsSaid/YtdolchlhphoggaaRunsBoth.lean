/-
  That the program and the document answer alike of right runs. Own work; each is proved by a walk through the landed text.
-/
import Derived.Test.YtdolchlhphoggaaRows
import Derived.Test.YtdolchlhphoggaaRunsMem
import Derived.Test.YtdolchlhphoggaaRunsCalls
import Derived.Test.YtdolchlhphoggaaRunsPutAll
import Derived.Test.YtdolchlhphoggaaRunsTake
import Derived.Test.YtdolchlhphoggaaRunsRtake
import Derived.Test.YtdolchlhphoggaaRunsRputOk
import Derived.WalkKit
import Derived.ProofKit
import Derived.OpenShut
import Derived.Outline
import Derived.Deep.Light
import Derived.Deep.QuietTactic
import Derived.BigQuiet
import Derived.IntWalk
import Derived.StillTailTactics
import Derived.RegionTactic
import Derived.Deep.RegionLaw
import Derived.ChangeAlike
import Derived.Deep.RegionHeld3
import Derived.Deep.CutRange
namespace Go.Proofs.Ytdolchlhphoggaa
open Go.ChangeShapes Go.WideShapes Go.ChangeAt Go.RowKit
set_option maxRecDepth 100000

def Out3 (L : List R) (x code : Int) (w : World) (e : Ending) (w' : World) : Prop := ∃ v, e = .returned (.tuple #[v, .int .i64 x, .int .i64 code]) ∧ Made1 L w v w'
def Out2 (L : List R) (code : Int) (w : World) (e : Ending) (w' : World) : Prop := ∃ v, e = .returned (.tuple #[v, .int .i64 code]) ∧ Made1 L w v w'
theorem none_made {w w' : World} (k : Kept Old w w') : Made1 [] w (.slice none 0 0) w' := ⟨none, 0, 0, rfl, Rs.nil _ _, Nat.le_refl _, ⟨fun _ => rfl, fun _ h => by cases h⟩, k⟩
theorem right_n {w : World} {A : Option Addr} {n : Nat} {l : List R} (h : Rs w A n l) (hr : Right 256 0 l) : n ≤ 257 := by
  have := hr.len (by omega)
  have := h.len
  omega
theorem fit_both (l : List R) (m : Int) (hr : Right 256 0 l) : ∃ (k : Int) (b : Bool),
    (∀ A n c w, Rs w A n l → Calls Try.prog 28 #[.slice A n c, .int .i64 m] w fun e w' => e = .returned (.tuple #[.int .i64 k, .bool b]) ∧ Kept Old w w') ∧
    (∀ A n c w, Rs w A n l → Calls Try.prog 11 #[.slice A n c, .int .i64 m] w fun e w' => e = .returned (.tuple #[.int .i64 k, .bool b]) ∧ Kept Old w w') := by
  by_cases hm : m < 1
  · exact ⟨0, false, fun A n c w _ => fit_bad A n c m w hm, fun A n c w h => rfit_no A n c l m w h (.inl hm) (by have := right_n h hr; omega)⟩
  · cases hf : fitB l m with
    | false => exact ⟨0, false, fun A n c w h => fit_no A n c l m w h (by omega) hf (by have := right_n h hr; omega), fun A n c w h => rfit_no A n c l m w h (.inr hf) (by have := right_n h hr; omega)⟩
    | true =>
      obtain ⟨i, x, f⟩ := fits_of hf
      exact ⟨i, true, fun A n c w h => fit_ok A n c l m i x w h (by omega) f (by have := right_n h hr; omega), fun A n c w h => rfit_ok A n c l m i x w h (by omega) f (by have := right_n h hr; omega)⟩
theorem take_both (l : List R) (m : Int) (hr : Right 256 0 l) : ∃ (L : List R) (x code : Int), Right 256 0 L ∧
    (∀ A n c w, Rs w A n l → n ≤ c → Calls Try.prog 33 #[.slice A n c, .int .i64 m] w (Out3 L x code w)) ∧
    (∀ A n c w, Rs w A n l → Calls Try.prog 50 #[.slice A n c, .int .i64 m] w (Out3 L x code w)) := by
  by_cases hm : m < 1
  · exact ⟨[], 0, 1, trivial, fun A n c w _ _ => (take_bad A n c m w hm).mono fun e w' h => ⟨_, h.1, none_made h.2⟩, fun A n c w h => (rtake_bad A n c m w hm).mono fun e w' h => ⟨_, h.1, none_made h.2⟩⟩
  · cases hf : fitB l m with
    | false => exact ⟨[], 0, 3, trivial, fun A n c w h _ => (take_full A n c l m w h (by omega) hf (by have := right_n h hr; omega)).mono fun e w' h => ⟨_, h.1, none_made h.2⟩, fun A n c w h => (rtake_full A n c l m w h (by omega) hf (by have := right_n h hr; omega)).mono fun e w' h => ⟨_, h.1, none_made h.2⟩⟩
    | true =>
      obtain ⟨i, x, f⟩ := fits_of hf
      exact ⟨takeL l m i x, x.1, 0, right_take hr f (by omega), fun A n c w h hc => take_ok A n c l m i x w h hr hc (by omega) f (by have := right_n h hr; omega), fun A n c w h => rtake_ok A n c l m i x w h hr (by omega) f (by have := right_n h hr; omega)⟩
theorem put_both (l : List R) (r : R) (hr : Right 256 0 l) (h64 : in64 r.2) : ∃ (L : List R) (code : Int), Right 256 0 L ∧
    (∀ A n c w, Rs w A n l → n ≤ c → (A = none → c = 0) → Calls Try.prog 35 #[.slice A n c, run r] w (Out2 L code w)) ∧
    (∀ A n c w, Rs w A n l → Calls Try.prog 41 #[.slice A n c, run r] w (Out2 L code w)) := by
  cases hb : liesB r 256 with
  | false => exact ⟨[], 1, trivial, fun A n c w _ _ _ => (put_bad A n c r w h64 hb).mono fun e w' h => ⟨_, h.1, none_made h.2⟩, fun A n c w _ => (rput_bad A n c r w hb).mono fun e w' h => ⟨_, h.1, none_made h.2⟩⟩
  | true =>
    obtain ⟨h0, h1, h2⟩ := of_decide_eq_true hb
    cases hf : freeB l r.1 r.2 with
    | false => exact ⟨[], 4, trivial, fun A n c w h _ _ => (put_twice A n c l r w h hr (by have := right_n h hr; omega) h0 h1 h2 hf).mono fun e w' h => ⟨_, h.1, none_made h.2⟩, fun A n c w h => (rput_twice A n c l r w h hr (by have := right_n h hr; omega) h0 h1 h2 hf).mono fun e w' h => ⟨_, h.1, none_made h.2⟩⟩
    | true => exact ⟨putL l r.1 r.2, 0, right_put hr h0 h0 h1 h2 (free_mem hf), fun A n c w h hc hA => put_ok A n c l r w h hr hc hA (by have := right_n h hr; omega) h0 h1 h2 hf, fun A n c w h => rput_ok A n c l r w h hr (by have := right_n h hr; omega) h0 h1 h2 hf⟩
end Go.Proofs.Ytdolchlhphoggaa
