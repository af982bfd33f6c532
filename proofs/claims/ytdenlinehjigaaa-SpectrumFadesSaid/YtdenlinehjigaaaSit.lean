/- Lists of points, powers and walls in memory; a site. -/
import Derived.Test.YtdenlinehjigaaaRng
namespace Go.Proofs.Ytdenlinehjigaaa
open Go.RowKit

structure Pt where
  x : Int
  y : Int
structure Wl where
  ax : Int
  ay : Int
  bx : Int
  by_ : Int
  f : Int
def ptAt (ps : List Pt) (i : Nat) : Pt := ps.getD i ⟨0, 0⟩
def wlAt (ps : List Wl) (i : Nat) : Wl := ps.getD i ⟨0, 0, 0, 0, 0⟩
/-- A slice of integers in memory. -/
def IntsIn (w : World) (ao : Option Addr) (len : Nat) (zs : List Int) : Prop :=
  zs.length = len ∧ ∀ i, i < len → ∃ b off, ao = some ⟨b, off, none⟩ ∧ w.cell? ⟨b, off + i, none⟩ = some (.int .i64 (zs.getD i 0))
def PtsIn (w : World) (ao : Option Addr) (len : Nat) (ps : List Pt) : Prop :=
  ps.length = len ∧ ∀ i, i < len → ∃ b off, ao = some ⟨b, off, none⟩ ∧ w.cell? ⟨b, off + i * 2, none⟩ = some (.int .i64 (ptAt ps i).x) ∧ w.cell? ⟨b, off + i * 2 + 1, none⟩ = some (.int .i64 (ptAt ps i).y)
def WlsIn (w : World) (ao : Option Addr) (len : Nat) (ws : List Wl) : Prop :=
  ws.length = len ∧ ∀ i, i < len → ∃ b off, ao = some ⟨b, off, none⟩ ∧ w.cell? ⟨b, off + i * 5, none⟩ = some (.int .i64 (wlAt ws i).ax) ∧ w.cell? ⟨b, off + i * 5 + 1, none⟩ = some (.int .i64 (wlAt ws i).ay) ∧
    w.cell? ⟨b, off + i * 5 + 2, none⟩ = some (.int .i64 (wlAt ws i).bx) ∧ w.cell? ⟨b, off + i * 5 + 3, none⟩ = some (.int .i64 (wlAt ws i).by_) ∧ w.cell? ⟨b, off + i * 5 + 4, none⟩ = some (.int .i64 (wlAt ws i).f)
theorem IntsIn.kept {w w' : World} {ao : Option Addr} {len : Nat} {zs : List Int} (h : IntsIn w ao len zs) (hf : Fr no w w') : IntsIn w' ao len zs := ⟨h.1, fun i hi => by
  obtain ⟨b, off, ha, hc⟩ := h.2 i hi
  exact ⟨b, off, ha, hf.keepc hc⟩⟩
theorem PtsIn.kept {w w' : World} {ao : Option Addr} {len : Nat} {zs : List Pt} (h : PtsIn w ao len zs) (hf : Fr no w w') : PtsIn w' ao len zs := ⟨h.1, fun i hi => by
  obtain ⟨b, off, ha, hc, hd⟩ := h.2 i hi
  exact ⟨b, off, ha, hf.keepc hc, hf.keepc hd⟩⟩
theorem WlsIn.kept {w w' : World} {ao : Option Addr} {len : Nat} {zs : List Wl} (h : WlsIn w ao len zs) (hf : Fr no w w') : WlsIn w' ao len zs := ⟨h.1, fun i hi => by
  obtain ⟨b, off, ha, h0, h1, h2, h3, h4⟩ := h.2 i hi
  exact ⟨b, off, ha, hf.keepc h0, hf.keepc h1, hf.keepc h2, hf.keepc h3, hf.keepc h4⟩⟩
def ptOk (p : Pt) : Bool := ptB p.x p.y
def wlOk (v : Wl) : Bool := wlB v.ax v.ay v.bx v.by_ v.f
theorem all_take {α : Type} (g : α → Bool) (d : α) (l : List α) (k : Nat) (hk : k < l.length) : (l.take (k + 1)).all g = ((l.take k).all g && g (l.getD k d)) := by
  rw [List.take_succ_eq_append_getElem hk, List.all_append]
  simp [List.getD_eq_getElem?_getD, List.getElem?_eq_getElem hk]
theorem all_no {α : Type} (g : α → Bool) (d : α) (l : List α) (k : Nat) (hk : k < l.length) (h : g (l.getD k d) = false) : l.all g = false := by
  rw [List.all_eq_false]
  refine ⟨l.getD k d, ?_, by rw [h]; exact Bool.false_ne_true⟩
  rw [List.getD_eq_getElem?_getD, List.getElem?_eq_getElem hk]
  exact List.getElem_mem hk
theorem all_get {α : Type} (g : α → Bool) (d : α) (l : List α) (k : Nat) (hk : k < l.length) (h : l.all g = true) : g (l.getD k d) = true := by
  rw [List.all_eq_true] at h
  apply h
  rw [List.getD_eq_getElem?_getD, List.getElem?_eq_getElem hk]
  exact List.getElem_mem hk
set_option maxHeartbeats 4000000 in
theorem allPts_any (ao : Option Addr) (len cap : Nat) (zs : List Pt) (w : World) (hz : PtsIn w ao len zs) (hl : len ≤ 40) :
    Calls Try.prog 70 #[.slice ao len cap, .func (.func 71) #[] #[]] w fun e w' => e = .returned (.bool (zs.all ptOk)) ∧ Fr no w w' := by
  have HZ := Lib.hid hz
  have HL := Lib.hid hl
  have hzl := hz.1
  have HZL := Lib.hid hzl
  clear hz hl hzl
  go_enter Try.func70, Try.ntmps70
  go_wp2_with fail
  go_loopw [6, 9] (fun _ i wr => ∃ k : Nat, k ≤ len ∧ i = .int .i64 k ∧ (zs.take k).all ptOk = true ∧ Fr no w wr) (fun _ i _ => len - (intOf i).toNat)
  case atStart => exact ⟨0, Nat.zero_le _, rfl, by simp, Fr.refl _ _⟩
  case round =>
    obtain ⟨k, hk, rfl, ha, hf⟩ := hrel
    have HA := Lib.hid ha
    have HF := Lib.hid hf
    clear ha hf
    by_cases hlt : k < len
    · obtain ⟨b, off, rfl, hc0, hc1⟩ := (HZ.out.kept HF.out).2 k hlt
      have HT := Lib.hid (all_take ptOk ⟨0, 0⟩ zs k (by have := HZL.out; omega))
      have HN := Lib.hid (all_no ptOk ⟨0, 0⟩ zs k (by have := HZL.out; omega))
      have hkI : (k : Int) ≤ 39 := by have := HL.out; omega
      have HK := fun w => isPoint_any (ptAt zs k).x (ptAt zs k).y w
      rw [show zs.getD k ⟨0, 0⟩ = ptAt zs k from rfl] at HT HN
      generalize ptAt zs k = p at *
      obtain ⟨x, y⟩ := p
      simp only at HK hc0 hc1
      cases hp : ptOk ⟨x, y⟩
      · have HV := Lib.hid (HN.out hp)
        rw [show ptB x y = ptOk ⟨x, y⟩ from rfl, hp] at HK
        have HK := Lib.hid HK
        clear hp
        go_wp2_with fail
        refine (HK.out _).mono ?_
        rintro e w3 ⟨rfl, f3⟩
        have HF3 := Lib.hid ((HF.out.alloc _).noTrans f3)
        clear f3
        go_wp2_with fail
        go_ret
        rw [HV.out]
        exact ⟨rfl, HF3.out⟩
      · rw [show ptB x y = ptOk ⟨x, y⟩ from rfl, hp] at HK
        rw [HA.out, hp] at HT
        have HK := Lib.hid HK
        clear hp
        go_wp2_with fail
        refine (HK.out _).mono ?_
        rintro e w3 ⟨rfl, f3⟩
        have HF3 := Lib.hid ((HF.out.alloc _).noTrans f3)
        clear f3
        go_wp2_with fail
        go_roundw
        case rel => exact ⟨k + 1, by omega, by go_num, HT.out, HF3.out⟩
        case measure => simp [intOf]; omega
    · have HV := Lib.hid (show zs.all ptOk = true by have := HA.out; rwa [List.take_of_length_le (by have := HZL.out; omega)] at this)
      go_wp2_with fail
      go_ret
      rw [HV.out]
      exact ⟨rfl, HF.out⟩
set_option maxHeartbeats 4000000 in
theorem allInts_any (ao : Option Addr) (len cap : Nat) (zs : List Int) (w : World) (hz : IntsIn w ao len zs) (hl : len ≤ 40) :
    Calls Try.prog 72 #[.slice ao len cap, .func (.func 73) #[] #[]] w fun e w' => e = .returned (.bool (zs.all isP)) ∧ Fr no w w' := by
  have HZ := Lib.hid hz
  have HL := Lib.hid hl
  have hzl := hz.1
  have HZL := Lib.hid hzl
  clear hz hl hzl
  go_enter Try.func72, Try.ntmps72
  go_wp2_with fail
  go_loopw [6, 9] (fun _ i wr => ∃ k : Nat, k ≤ len ∧ i = .int .i64 k ∧ (zs.take k).all isP = true ∧ Fr no w wr) (fun _ i _ => len - (intOf i).toNat)
  case atStart => exact ⟨0, Nat.zero_le _, rfl, by simp, Fr.refl _ _⟩
  case round =>
    obtain ⟨k, hk, rfl, ha, hf⟩ := hrel
    have HA := Lib.hid ha
    have HF := Lib.hid hf
    clear ha hf
    by_cases hlt : k < len
    · obtain ⟨b, off, rfl, hc0⟩ := (HZ.out.kept HF.out).2 k hlt
      have HT := Lib.hid (all_take isP 0 zs k (by have := HZL.out; omega))
      have HN := Lib.hid (all_no isP 0 zs k (by have := HZL.out; omega))
      have hkI : (k : Int) ≤ 39 := by have := HL.out; omega
      have HK := fun w => isPower_any (zs.getD k 0) w
      have HG := Lib.hid (show True from trivial)
      generalize zs.getD k 0 = z at *
      cases hp : isP z
      · have HV := Lib.hid (HN.out hp)
        rw [hp] at HK
        have HK := Lib.hid HK
        clear hp
        go_wp2_with fail
        refine (HK.out _).mono ?_
        rintro e w3 ⟨rfl, rfl⟩
        skip
        go_wp2_with fail
        go_ret
        rw [HV.out]
        exact ⟨rfl, HF.out⟩
      · rw [hp] at HK
        rw [HA.out, hp] at HT
        have HK := Lib.hid HK
        clear hp
        go_wp2_with fail
        refine (HK.out _).mono ?_
        rintro e w3 ⟨rfl, rfl⟩
        skip
        go_wp2_with fail
        go_roundw
        case rel => exact ⟨k + 1, by omega, by go_num, HT.out, HF.out⟩
        case measure => simp [intOf]; omega
    · have HV := Lib.hid (show zs.all isP = true by have := HA.out; rwa [List.take_of_length_le (by have := HZL.out; omega)] at this)
      go_wp2_with fail
      go_ret
      rw [HV.out]
      exact ⟨rfl, HF.out⟩
set_option maxHeartbeats 4000000 in
theorem allWls_any (ao : Option Addr) (len cap : Nat) (zs : List Wl) (w : World) (hz : WlsIn w ao len zs) (hl : len ≤ 40) :
    Calls Try.prog 74 #[.slice ao len cap, .func (.func 75) #[] #[]] w fun e w' => e = .returned (.bool (zs.all wlOk)) ∧ Fr no w w' := by
  have HZ := Lib.hid hz
  have HL := Lib.hid hl
  have hzl := hz.1
  have HZL := Lib.hid hzl
  clear hz hl hzl
  go_enter Try.func74, Try.ntmps74
  go_wp2_with fail
  go_loopw [6, 9] (fun _ i wr => ∃ k : Nat, k ≤ len ∧ i = .int .i64 k ∧ (zs.take k).all wlOk = true ∧ Fr no w wr) (fun _ i _ => len - (intOf i).toNat)
  case atStart => exact ⟨0, Nat.zero_le _, rfl, by simp, Fr.refl _ _⟩
  case round =>
    obtain ⟨k, hk, rfl, ha, hf⟩ := hrel
    have HA := Lib.hid ha
    have HF := Lib.hid hf
    clear ha hf
    by_cases hlt : k < len
    · obtain ⟨b, off, rfl, hc0, hc1, hc2, hc3, hc4⟩ := (HZ.out.kept HF.out).2 k hlt
      have HT := Lib.hid (all_take wlOk ⟨0, 0, 0, 0, 0⟩ zs k (by have := HZL.out; omega))
      have HN := Lib.hid (all_no wlOk ⟨0, 0, 0, 0, 0⟩ zs k (by have := HZL.out; omega))
      have hkI : (k : Int) ≤ 39 := by have := HL.out; omega
      have HK := fun w => isWall_any (wlAt zs k).ax (wlAt zs k).ay (wlAt zs k).bx (wlAt zs k).by_ (wlAt zs k).f w
      rw [show zs.getD k ⟨0, 0, 0, 0, 0⟩ = wlAt zs k from rfl] at HT HN
      generalize wlAt zs k = p at *
      obtain ⟨ax, ay, bx, by_, f⟩ := p
      simp only at HK hc0 hc1 hc2 hc3 hc4
      cases hp : wlOk ⟨ax, ay, bx, by_, f⟩
      · have HV := Lib.hid (HN.out hp)
        rw [show wlB ax ay bx by_ f = wlOk ⟨ax, ay, bx, by_, f⟩ from rfl, hp] at HK
        have HK := Lib.hid HK
        clear hp
        go_wp2_with fail
        refine (HK.out _).mono ?_
        rintro e w3 ⟨rfl, f3⟩
        have HF3 := Lib.hid ((HF.out.alloc _).noTrans f3)
        clear f3
        go_wp2_with fail
        go_ret
        rw [HV.out]
        exact ⟨rfl, HF3.out⟩
      · rw [show wlB ax ay bx by_ f = wlOk ⟨ax, ay, bx, by_, f⟩ from rfl, hp] at HK
        rw [HA.out, hp] at HT
        have HK := Lib.hid HK
        clear hp
        go_wp2_with fail
        refine (HK.out _).mono ?_
        rintro e w3 ⟨rfl, f3⟩
        have HF3 := Lib.hid ((HF.out.alloc _).noTrans f3)
        clear f3
        go_wp2_with fail
        go_roundw
        case rel => exact ⟨k + 1, by omega, by go_num, HT.out, HF3.out⟩
        case measure => simp [intOf]; omega
    · have HV := Lib.hid (show zs.all wlOk = true by have := HA.out; rwa [List.take_of_length_le (by have := HZL.out; omega)] at this)
      go_wp2_with fail
      go_ret
      rw [HV.out]
      exact ⟨rfl, HF.out⟩
end Go.Proofs.Ytdenlinehjigaaa
