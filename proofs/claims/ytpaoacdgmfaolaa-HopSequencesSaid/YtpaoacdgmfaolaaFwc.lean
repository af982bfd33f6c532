/- Few lists. -/
import Derived.Test.YtpaoacdgmfaolaaCal
namespace Go.Proofs.Ytpaoacdgmfaolaa
set_option linter.unusedVariables false
open Go.RowKit


theorem hv_snoc (xs : List Hv) (k : Nat) (hk : k < xs.length) : xs.take (k + 1) = xs.take k ++ [hvAt xs k] := by
  rw [List.take_succ_eq_append_getElem hk]
  simp [hvAt, List.getD_eq_getElem?_getD, List.getElem?_eq_getElem hk]
theorem any_snoc (P : Hv → Bool) (xs : List Hv) (k : Nat) (hk : k < xs.length) : (xs.take (k + 1)).any P = ((xs.take k).any P || P (hvAt xs k)) := by
  rw [hv_snoc xs k hk, List.any_append]; simp
theorem hv_mem (xs : List Hv) (k : Nat) (hk : k < xs.length) : hvAt xs k ∈ xs := by
  simp only [hvAt, List.getD_eq_getElem?_getD, List.getElem?_eq_getElem hk, Option.getD_some]
  exact List.getElem_mem hk
theorem any_yes (P : Hv → Bool) (xs : List Hv) (k : Nat) (hk : k < xs.length) (h : P (hvAt xs k) = true) : xs.any P = true := by
  rw [List.any_eq_true]
  exact ⟨_, hv_mem xs k hk, h⟩

set_option maxRecDepth 20000 in
set_option maxHeartbeats 8000000 in
theorem indexW_any (P : Hv → Bool) (ao : Option Addr) (len cap : Nat) (xs : List Hv) (w : World) (h : HvsIn w ao len xs) (hl : len ≤ 100)
    (hP : ∀ y (x : Hv) ca ck, Fr no w y → IntsIn y ca x.chs.length x.chs → Calls Try.prog 40 #[.agg #[.int .i64 x.v, .int .i64 x.f, .int .i64 x.u, .slice ca x.chs.length ck]] y (fun e y' => e = .returned (.bool (P x)) ∧ Fr no y y')) :
    Calls Try.prog 53 #[.slice ao len cap, .func (.func 40) #[] #[]] w fun e w' => (∃ n : Int, e = .returned (.int .i64 n) ∧ decide (0 ≤ n) = xs.any P) ∧ Fr no w w' := by
  have HX := Lib.hid h
  have HXL := Lib.hid h.1
  have HL := Lib.hid hl
  have HP := Lib.hid hP
  have eg : ∀ args w, (callFunc 40 args).run Try.prog w = .ok (.enter 40 args) w := Go.Proofs.enters_of Try.func40 (by kernel_rfl) rfl
  clear h hl hP
  go_enter Try.func53, Try.ntmps53
  go_wp2_with fail
  go_loopw [5, 8] (fun _ i wr => ∃ k : Nat, k ≤ len ∧ i = .int .i64 k ∧ Hid ((xs.take k).any P = false) ∧ Hid (Fr no w wr)) (fun _ i _ => len - (intOf i).toNat)
  case atStart => exact ⟨0, Nat.zero_le _, rfl, Lib.hid (by simp), Lib.hid (Fr.refl _ _)⟩
  case round =>
    obtain ⟨k, hk, rfl, I, F⟩ := hrel
    by_cases hlt : k < len
    · have hkI : (k : Int) ≤ 99 := by have := HL.out; omega
      obtain ⟨b, off, ca, ck, rfl, hI, -, e0, e1, e2, e3⟩ := HX.out.2 k hlt
      have HI1 := Lib.hid (hI.kept F.out)
      replace e0 := F.out.keepc e0
      replace e1 := F.out.keepc e1
      replace e2 := F.out.keepc e2
      replace e3 := F.out.keepc e3
      have HS := Lib.hid (any_snoc P xs k (by have := HXL.out; omega))
      have HY := Lib.hid (any_yes P xs k (by have := HXL.out; omega))
      generalize hvAt xs k = x at *
      have KP := HP.out wr x ca ck F.out HI1.out
      clear hI
      cases hp : P x
      · rw [hp] at KP HS
        have HJ := Lib.hid (show (xs.take (k + 1)).any P = false by rw [HS.out, I.out]; rfl)
        have KP := Lib.hid KP
        clear hp
        go_wp2_with fail
        refine KP.out.mono ?_
        rintro e w2 ⟨rfl, f2⟩
        have F2 := Lib.hid (F.out.noTrans f2)
        clear f2
        go_wp2_with fail
        go_roundw
        case rel => exact ⟨k + 1, by omega, by go_num, HJ, F2⟩
        case measure => simp [intOf]; omega
      · have HV := Lib.hid (HY.out hp)
        rw [hp] at KP
        have KP := Lib.hid KP
        have h0 : (0 : Int) ≤ (k : Int) := by omega
        clear hp
        go_wp2_with fail
        refine KP.out.mono ?_
        rintro e w2 ⟨rfl, f2⟩
        have F2 := Lib.hid (F.out.noTrans f2)
        clear f2
        go_wp2_with fail
        go_ret
        exact ⟨⟨_, rfl, by rw [HV.out]; simp⟩, F2.out⟩
    · have HV := Lib.hid (show xs.any P = false by rw [← I.out, List.take_of_length_le (by have := HXL.out; omega)])
      go_wp2_with fail
      go_ret
      exact ⟨⟨_, rfl, by rw [HV.out]; rfl⟩, F.out⟩
theorem containsW_any (P : Hv → Bool) (ao : Option Addr) (len cap : Nat) (xs : List Hv) (w : World) (h : HvsIn w ao len xs) (hl : len ≤ 100)
    (hP : ∀ y (x : Hv) ca ck, Fr no w y → IntsIn y ca x.chs.length x.chs → Calls Try.prog 40 #[.agg #[.int .i64 x.v, .int .i64 x.f, .int .i64 x.u, .slice ca x.chs.length ck]] y (fun e y' => e = .returned (.bool (P x)) ∧ Fr no y y')) :
    Calls Try.prog 32 #[.slice ao len cap, .func (.func 40) #[] #[]] w fun e w' => e = .returned (.bool (xs.any P)) ∧ Fr no w w' := by
  have HI := Lib.hid (indexW_any P ao len cap xs w h hl hP)
  clear h hl hP
  go_enter Try.func32, Try.ntmps32
  go_wp2_with fail
  refine HI.out.mono ?_
  rintro e w1 ⟨⟨n, rfl, hn⟩, f1⟩
  have HN := Lib.hid hn
  have F1 := Lib.hid f1
  clear hn f1
  go_wp2_with fail
  go_ret
  rw [← HN.out]
  exact ⟨rfl, F1.out⟩

set_option maxRecDepth 20000 in
set_option maxHeartbeats 8000000 in
theorem indexC_any (B : Nat) (P : Hv → Bool) (ao : Option Addr) (len cap : Nat) (xs : List Hv) (w : World) (h : HvsIn w ao len xs) (hl : len ≤ 100)
    (hP : ∀ y (x : Hv) ca ck, Fr no w y → IntsIn y ca x.chs.length x.chs → Calls Try.prog 33 #[.agg #[.int .i64 x.v, .int .i64 x.f, .int .i64 x.u, .slice ca x.chs.length ck], .pointer (some ⟨B, 0, none⟩)] y (fun e y' => e = .returned (.bool (P x)) ∧ Fr no y y')) :
    Calls Try.prog 53 #[.slice ao len cap, .func (.func 33) #[] #[.pointer (some ⟨B, 0, none⟩)]] w fun e w' => (∃ n : Int, e = .returned (.int .i64 n) ∧ decide (0 ≤ n) = xs.any P) ∧ Fr no w w' := by
  have HX := Lib.hid h
  have HXL := Lib.hid h.1
  have HL := Lib.hid hl
  have HP := Lib.hid hP
  have eg : ∀ args w, (callFunc 33 args).run Try.prog w = .ok (.enter 33 args) w := Go.Proofs.enters_of Try.func33 (by kernel_rfl) rfl
  clear h hl hP
  go_enter Try.func53, Try.ntmps53
  go_wp2_with fail
  go_loopw [5, 8] (fun _ i wr => ∃ k : Nat, k ≤ len ∧ i = .int .i64 k ∧ Hid ((xs.take k).any P = false) ∧ Hid (Fr no w wr)) (fun _ i _ => len - (intOf i).toNat)
  case atStart => exact ⟨0, Nat.zero_le _, rfl, Lib.hid (by simp), Lib.hid (Fr.refl _ _)⟩
  case round =>
    obtain ⟨k, hk, rfl, I, F⟩ := hrel
    by_cases hlt : k < len
    · have hkI : (k : Int) ≤ 99 := by have := HL.out; omega
      obtain ⟨b, off, ca, ck, rfl, hI, -, e0, e1, e2, e3⟩ := HX.out.2 k hlt
      have HI1 := Lib.hid (hI.kept F.out)
      replace e0 := F.out.keepc e0
      replace e1 := F.out.keepc e1
      replace e2 := F.out.keepc e2
      replace e3 := F.out.keepc e3
      have HS := Lib.hid (any_snoc P xs k (by have := HXL.out; omega))
      have HY := Lib.hid (any_yes P xs k (by have := HXL.out; omega))
      generalize hvAt xs k = x at *
      have KP := HP.out wr x ca ck F.out HI1.out
      clear hI
      cases hp : P x
      · rw [hp] at KP HS
        have HJ := Lib.hid (show (xs.take (k + 1)).any P = false by rw [HS.out, I.out]; rfl)
        have KP := Lib.hid KP
        clear hp
        go_wp2_with fail
        refine KP.out.mono ?_
        rintro e w2 ⟨rfl, f2⟩
        have F2 := Lib.hid (F.out.noTrans f2)
        clear f2
        go_wp2_with fail
        go_roundw
        case rel => exact ⟨k + 1, by omega, by go_num, HJ, F2⟩
        case measure => simp [intOf]; omega
      · have HV := Lib.hid (HY.out hp)
        rw [hp] at KP
        have KP := Lib.hid KP
        have h0 : (0 : Int) ≤ (k : Int) := by omega
        clear hp
        go_wp2_with fail
        refine KP.out.mono ?_
        rintro e w2 ⟨rfl, f2⟩
        have F2 := Lib.hid (F.out.noTrans f2)
        clear f2
        go_wp2_with fail
        go_ret
        exact ⟨⟨_, rfl, by rw [HV.out]; simp⟩, F2.out⟩
    · have HV := Lib.hid (show xs.any P = false by rw [← I.out, List.take_of_length_le (by have := HXL.out; omega)])
      go_wp2_with fail
      go_ret
      exact ⟨⟨_, rfl, by rw [HV.out]; rfl⟩, F.out⟩
theorem containsC_any (B : Nat) (P : Hv → Bool) (ao : Option Addr) (len cap : Nat) (xs : List Hv) (w : World) (h : HvsIn w ao len xs) (hl : len ≤ 100)
    (hP : ∀ y (x : Hv) ca ck, Fr no w y → IntsIn y ca x.chs.length x.chs → Calls Try.prog 33 #[.agg #[.int .i64 x.v, .int .i64 x.f, .int .i64 x.u, .slice ca x.chs.length ck], .pointer (some ⟨B, 0, none⟩)] y (fun e y' => e = .returned (.bool (P x)) ∧ Fr no y y')) :
    Calls Try.prog 32 #[.slice ao len cap, .func (.func 33) #[] #[.pointer (some ⟨B, 0, none⟩)]] w fun e w' => e = .returned (.bool (xs.any P)) ∧ Fr no w w' := by
  have HI := Lib.hid (indexC_any B P ao len cap xs w h hl hP)
  clear h hl hP
  go_enter Try.func32, Try.ntmps32
  go_wp2_with fail
  refine HI.out.mono ?_
  rintro e w1 ⟨⟨n, rfl, hn⟩, f1⟩
  have HN := Lib.hid hn
  have F1 := Lib.hid f1
  clear hn f1
  go_wp2_with fail
  go_ret
  rw [← HN.out]
  exact ⟨rfl, F1.out⟩

def manyC (x : Hv) : Bool := decide (20 < (x.chs.length : Int))
def fewB (xs : List Hv) : Bool := decide (xs.length ≤ 10) && !xs.any manyC
theorem fewB_t {xs : List Hv} (h : fewB xs = true) : xs.length ≤ 10 ∧ ∀ i, i < xs.length → (hvAt xs i).chs.length ≤ 20 := by
  simp only [fewB, Bool.and_eq_true, decide_eq_true_eq, Bool.not_eq_true'] at h
  refine ⟨h.1, fun i hi => ?_⟩
  apply Classical.byContradiction
  intro hc
  have := any_yes manyC xs i hi (by simp [manyC]; omega)
  rw [h.2] at this
  cases this
theorem few1_any (v f u : Int) (ca : Option Addr) (cl ck : Nat) (w : World) : Calls Try.prog 40 #[.agg #[.int .i64 v, .int .i64 f, .int .i64 u, .slice ca cl ck]] w fun e w' => e = .returned (.bool (decide (20 < (cl : Int)))) ∧ Fr no w w' := by
  go_enter Try.func40, Try.ntmps40
  go_wp2_with fail
  go_ret
  exact ⟨rfl, (Fr.refl no w).alloc _⟩
theorem few_any (ao : Option Addr) (len cap : Nat) (xs : List Hv) (w : World) (h : HvsIn w ao len xs) : Calls Try.prog 18 #[.slice ao len cap] w fun e w' => e = .returned (.bool (fewB xs)) ∧ Fr no w w' := by
  have HXL := Lib.hid h.1
  by_cases h10 : len ≤ 10
  · have KC := Lib.hid (containsW_any manyC ao len cap xs w h (by omega) (fun y x ca ck hf hi => few1_any x.v x.f x.u ca x.chs.length ck y))
    have HR := Lib.hid (show fewB xs = !xs.any manyC by unfold fewB; rw [decide_eq_true (by have := HXL.out; omega)]; rfl)
    have hI : (len : Int) ≤ 10 := by omega
    have hd : decide ((len : Int) ≤ 10) = true := decide_eq_true hI
    clear h
    go_enter Try.func18, Try.ntmps18
    go_wp2_with fail
    refine KC.out.mono ?_
    rintro e w1 ⟨rfl, f1⟩
    have F1 := Lib.hid f1
    clear f1
    go_wp2_with fail
    go_ret
    rw [HR.out]
    exact ⟨rfl, F1.out⟩
  · have HR := Lib.hid (show fewB xs = false by unfold fewB; rw [decide_eq_false (by have := HXL.out; omega)]; rfl)
    have hI : ¬ ((len : Int) ≤ 10) := by omega
    have hd : decide ((len : Int) ≤ 10) = false := decide_eq_false hI
    clear h
    go_enter Try.func18, Try.ntmps18
    go_wp2_with fail
    go_ret
    rw [HR.out]
    exact ⟨rfl, Fr.refl _ _⟩

end Go.Proofs.Ytpaoacdgmfaolaa
