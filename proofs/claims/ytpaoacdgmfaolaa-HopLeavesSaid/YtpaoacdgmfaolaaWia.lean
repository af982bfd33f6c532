/- Without. -/
import Derived.Test.YtpaoacdgmfaolaaWit
namespace Go.Proofs.Ytpaoacdgmfaolaa
set_option linter.unusedVariables false
open Go.RowKit


theorem wiE_0 {chs bl : List Int} {least : Int} (h1 : chB chs = true) (h2 : bkB bl = true) (h3 : inR least 1 chs.length = true) : wiE chs bl least = 0 := by simp [wiE, h1, h2, h3]
set_option maxHeartbeats 4000000 in
theorem witho_any (ao : Option Addr) (al ac : Nat) (chs : List Int) (bo : Option Addr) (bl_ bc : Nat) (bl : List Int) (least : Int) (w : World) (hx : IntsIn w ao al chs) (hy : IntsIn w bo bl_ bl) (ha : al ≤ 100) (hb : bl_ ≤ 100) :
    Calls Try.prog 25 #[.slice ao al ac, .slice bo bl_ bc, .int .i64 least] w fun e w' => WiRes w w' (wiV chs bl least) (wiE chs bl least) e := by
  have KA := areChannels_any ao al ac chs w hx ha
  have KB := fun w h => isBlacklist_any bo bl_ bc bl w h hb
  have KC := fun w => within_any least 1 al w
  have HAL := hx.1
  cases h1 : chB chs
  · have e1 : wiE chs bl least = 1 := by simp [wiE, h1]
    have e2 : wiV chs bl least = [] := by simp [wiV, e1]
    rw [h1] at KA
    rw [e1, e2]
    have KA := Lib.hid KA
    clear e1 e2 h1 hx hy HAL
    go_enter Try.func25, Try.ntmps25
    go_wp2_with fail
    refine KA.out.mono ?_
    rintro e w1 ⟨rfl, f1⟩
    have F1 := Lib.hid f1
    clear f1
    go_wp2_with fail
    go_ret2
    exact ⟨_, rfl, World.ownsRow_nil _ _ _ _, F1.out⟩
  · cases h2 : bkB bl
    · have e1 : wiE chs bl least = 1 := by simp [wiE, h2]
      have e2 : wiV chs bl least = [] := by simp [wiV, e1]
      rw [h1] at KA
      rw [h2] at KB
      rw [e1, e2]
      have KA := Lib.hid KA
      have KB := Lib.hid KB
      have HY := Lib.hid hy
      clear e1 e2 h1 h2 hx hy HAL
      go_enter Try.func25, Try.ntmps25
      go_wp2_with fail
      refine KA.out.mono ?_
      rintro e w1 ⟨rfl, f1⟩
      have F1 := Lib.hid f1
      clear f1
      go_wp2_with fail
      refine (KB.out _ (HY.out.kept F1.out)).mono ?_
      rintro e w2 ⟨rfl, rfl⟩
      go_wp2_with fail
      go_ret2
      exact ⟨_, rfl, World.ownsRow_nil _ _ _ _, F1.out⟩
    · cases h3 : inR least 1 al
      · have e1 : wiE chs bl least = 2 := by simp [wiE, h1, h2, HAL, h3]
        have e2 : wiV chs bl least = [] := by simp [wiV, e1]
        rw [h1] at KA
        rw [h2] at KB
        rw [h3] at KC
        rw [e1, e2]
        have KA := Lib.hid KA
        have KB := Lib.hid KB
        have KC := Lib.hid KC
        have HY := Lib.hid hy
        clear e1 e2 h1 h2 h3 hx hy HAL
        go_enter Try.func25, Try.ntmps25
        go_wp2_with fail
        refine KA.out.mono ?_
        rintro e w1 ⟨rfl, f1⟩
        have F1 := Lib.hid f1
        clear f1
        go_wp2_with fail
        refine (KB.out _ (HY.out.kept F1.out)).mono ?_
        rintro e w2 ⟨rfl, rfl⟩
        go_wp2_with fail
        refine (KC.out _).mono ?_
        rintro e w3 ⟨rfl, rfl⟩
        go_wp2_with fail
        go_ret2
        exact ⟨_, rfl, World.ownsRow_nil _ _ _ _, F1.out⟩
      · have e1 : wiE chs bl least = 0 := wiE_0 h1 h2 (by rw [HAL]; exact h3)
        have e2 : wiV chs bl least = wiL chs bl least := by simp [wiV, e1]
        rw [e1, e2]
        exact witho_3 ao al ac chs bo bl_ bc bl least w hx hy h1 h2 h3

end Go.Proofs.Ytpaoacdgmfaolaa
