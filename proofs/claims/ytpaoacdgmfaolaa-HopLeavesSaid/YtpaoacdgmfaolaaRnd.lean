/- Going round. -/
import Derived.Test.YtpaoacdgmfaolaaChe
import Derived.RangeFuncNested
import Derived.RangeFuncBound
import Derived.RangeFuncCalls
import Derived.RangeFuncLeaves
import Derived.Shelf.Abstract
import Derived.Shelf.RegionOpen
import Derived.OwnWalkIn
import Derived.TacticsInMore
import Derived.LoopNIn
import Derived.LoopIn
import Derived.Sort.QuietIn
import Derived.Stop.RegionWithIn
namespace Go.Proofs.Ytpaoacdgmfaolaa
set_option linter.unusedVariables false
open Go.RowKit
open Go.Shelf


attribute [local go_sem] Oper.semAt_some
def out (R D : Nat) : Nat → Prop := fun k => k = R ∨ D ≤ k
theorem abides_no {β : Type} {B : Nat} {J : β → World → Prop} (hJ : AbidesFrom B J) {s : β} {A C : World} (h : J s A) (hf : Fr no A C) : J s C := hJ s A C none h hf.growNo (fun _ e => by cases e)
theorem Fr.putObj {S : Nat → Prop} {a W : World} (h : Fr S a W) {l : Nat} (hl : S l ∨ a.heap.size ≤ l) (o : Obj) : Fr S a (W.putObj l o) := h.grown (grownBy_putObj' W l o) (fun k e => by cases e; exact hl)
theorem ownFrom_fr {β : Type} {B : Nat} {S : Nat → Prop} {w0 : World} (hB : w0.heap.size ≤ B) : OwnFrom B (fun (_ : β) W => Fr S w0 W) := fun _ X Y row hs hg hr => hs.grown hg (fun k e => .inr (Nat.le_trans hB (hr k e).1))
theorem ownFrom_blk {β : Type} {B k : Nat} {c : Array Value} {T : Nat} : OwnFrom B (fun (_ : β) W => W.heap[k]? = some (.cells c T (0, 0))) := fun _ X Y row hs hg hr => by
  refine (hg.block k (Array.getElem?_eq_some_iff.1 hs).1 (fun e => ?_)).trans hs
  obtain ⟨_, o, ho, hc⟩ := hr k e.symm
  rw [hs] at ho
  cases ho
  cases hc
theorem ownFrom_pure {β : Type} {B : Nat} {p : β → Prop} : OwnFrom B (fun x (_ : World) => p x) := fun _ _ _ _ hs _ _ => hs
def RnQ (q : Bool) (A B : Prop) : Prop := (q = true ∧ A) ∨ (q = false ∧ B)
def encR (x : Int × Int) : Array Value := #[.int .i64 x.1, .int .i64 x.2]
def rnL (zs : List Int) (s : Int) (k : Nat) : List (Int × Int) := (List.range k).map fun j : Nat => ((j : Int), cha zs s j)
theorem rnL_succ (zs : List Int) (s : Int) (k : Nat) : rnL zs s (k + 1) = rnL zs s k ++ [((k : Int), cha zs s k)] := by simp [rnL, List.range_succ]
theorem rnL_len (zs : List Int) (s : Int) (k : Nat) : (rnL zs s k).length = k := by simp [rnL]
theorem rnL_mem {zs : List Int} {s : Int} {k : Nat} {x : Int × Int} : x ∈ rnL zs s k ↔ ∃ j : Nat, j < k ∧ x = ((j : Int), cha zs s j) := by
  simp [rnL]
  constructor
  · rintro ⟨j, h, rfl⟩; exact ⟨j, h, rfl⟩
  · rintro ⟨j, h, rfl⟩; exact ⟨j, h, rfl⟩
set_option maxRecDepth 100000 in
set_option maxHeartbeats 8000000 in
theorem round1_in (n : Nat) (hn : 1 ≤ n) (l BX BS R D : Nat) (ca : Option Addr) (ck : Nat) (zs : List Int) (s : Int) (w W : World) (hwW : Fr no w W) (h1 : 1 ≤ zs.length) (h2 : zs.length ≤ 16) (s0 : 0 ≤ s) (s1 : s ≤ 109951163)
    (hb0 : ¬ out R D BX) (hb1 : ¬ out R D BS) (hca : ∀ b off, ca = some ⟨b, off, none⟩ → ¬ out R D b) (J Jx : List (Int × Int) → World → Prop) (hJ : AbidesFrom W.heap.size J)
    (hY : ∀ pre x W1, J pre W1 → pre.length < zs.length → YieldAt Fence.wide (n - 1) Try.prog l (encR x) W1 fun e W' =>
      (e = .returned (.bool true) ∧ J (pre ++ [x]) W' ∧ Fr (out R D) W1 W') ∨ (e = .returned (.bool false) ∧ Jx (pre ++ [x]) W'))
    (hc0 : W.cell? ⟨BX, 3, none⟩ = some (.slice ca zs.length ck)) (hc1 : W.cell? ⟨BS, 0, none⟩ = some (.int .i64 s))
    (hw : IntsIn w ca zs.length zs) (h0 : J [] W) :
    CallsIn Fence.wide n Try.prog 56 #[.func (.yield l) #[] #[], .pointer (some ⟨BX, 0, none⟩), .pointer (some ⟨BS, 0, none⟩)] W fun e W' => (∃ v, e = .returned v) ∧
      ((∃ xs, xs = rnL zs s zs.length ∧ J xs W') ∨ (∃ pre, (∃ k, k ≤ zs.length ∧ pre = rnL zs s k) ∧ Jx pre W')) := by
  have HW := Lib.hid (hw.kept hwW)
  have HY := Lib.hid hY
  have HJ := Lib.hid hJ
  have HCA := Lib.hid hca
  have HN := Lib.hid (And.intro hb0 hb1)
  have H0 := Lib.hid h0
  have HL := Lib.hid (And.intro h1 h2)
  have HCH := Lib.hid (fun o : Int => cha_at h1 (s := s) (o := o))
  clear hw hwW hY hJ hca hb0 hb1 h0 h1 h2
  obtain ⟨ln, hln⟩ : ∃ ln, ln = zs.length := ⟨_, rfl⟩
  rw [← hln] at hc0 HW HL
  have hl0 : (ln == 0) = false := by have := HL.out; simp; omega
  have hl0' : ((ln : Int) == 0) = false := by have := HL.out; simp; omega
  have hl0d : decide ((ln : Int) = 0) = false := by have := HL.out; simp; omega
  simp only [← hln] at HCH HY ⊢
  have HLN := Lib.hid hln
  clear hln
  refine callsIn_of_wp Try.func56 rfl trivial ?_ rfl
  simp only [Try.ntmps56, List.size_toArray, List.length_cons, List.length_nil, Nat.reduceAdd, Nat.reduceSub, Array.replicate_succ, Array.replicate_zero, List.push_toArray, List.append_toArray, List.nil_append, List.cons_append]
  gi_wp2_with fail
  gi_loopw [5, 10] (fun _ i wr => ∃ k : Nat, k ≤ ln ∧ i = .int .i64 k ∧ Hid (J (rnL zs s k) wr) ∧ Hid (Fr (out R D) W wr)) (fun _ i _ => ln - (intOf i).toNat)
  case atStart => exact ⟨0, Nat.zero_le _, rfl, H0, Lib.hid (Fr.refl _ _)⟩
  case round =>
    obtain ⟨k, hk, rfl, HJs, HF⟩ := hrel
    by_cases hlt : k < ln
    · have hkI : (k : Int) ≤ 15 := by have := HL.out; omega
      have hlI : (ln : Int) ≤ 16 := by have := HL.out; omega
      obtain ⟨m, m1, m2, m3⟩ := HCH.out k
      obtain ⟨b, off, rfl, e0⟩ := HW.out.2 m (by have := HLN.out; omega)
      have e1 := HF.out.keepc0 e0 (HCA.out b off rfl)
      rw [← m3] at e1
      have d0 := HF.out.keepc0 hc0 HN.out.1
      have d1 := HF.out.keepc0 hc1 HN.out.2
      obtain ⟨fn, tmps, assign, body, hy, hR⟩ := HY.out (rnL zs s k) ((k : Int), cha zs s k) wr.drew (abides_no HJ.out HJs.out ((Fr.refl no wr).drew)) (by rw [rnL_len]; have := HLN.out; omega)
      have HR := Lib.hid (hR.mono (R' := fun e W' => ∃ q, e = .returned (.bool q) ∧ RnQ q (J (rnL zs s k ++ [((k : Int), cha zs s k)]) W' ∧ Fr (out R D) wr.drew W') (Jx (rnL zs s k ++ [((k : Int), cha zs s k)]) W')) (by
        rintro e W' (⟨h1, h2⟩ | ⟨h1, h2⟩)
        · exact ⟨true, h1, .inl ⟨rfl, h2⟩⟩
        · exact ⟨false, h1, .inr ⟨rfl, h2⟩⟩))
      have HRS := Lib.hid (rnL_succ zs s k)
      have hmod : (s + (k : Int)) % (ln : Int) = (m : Int) := m2.symm
      have hsk : IntKind.i64.wrap (s + (k : Int)) = s + (k : Int) := IntWalk.i64_in _ (by omega)
      have hmL : m < ln := by have := HLN.out; omega
      have hmI : (m : Int) < (ln : Int) := by omega
      have hmm : IntKind.i64.wrap (Int.tmod (s + (k : Int)) (ln : Int)) = (m : Int) := by
        rw [Int.tmod_eq_emod_of_nonneg (by omega), hmod]; exact IntWalk.i64_in _ (by omega)
      have hmt : Int.tmod (s + (k : Int)) (ln : Int) = (m : Int) := by rw [Int.tmod_eq_emod_of_nonneg (by omega), hmod]
      simp only [encR] at hy
      clear hR e0 m1 m2 m3
      generalize cha zs s k = c at *
      gi_wp2_with fail
      gi_region_with (refine HR.out.mono ?_; rintro e W4 ⟨q, rfl, HQ⟩)
      all_goals (
        rcases HQ with ⟨rfl, hJ4, hk4⟩ | ⟨rfl, hx4⟩
        · have HJ4 := Lib.hid hJ4
          have HF4 := Lib.hid (show Fr (out R D) W W4 from (HF.out.drew).trans hk4 (fun _ _ h => h))
          clear hJ4 hk4
          gi_wp2_with fail
          go_roundw
          case rel => exact ⟨k + 1, by omega, by go_num, Lib.hid (by rw [HRS.out]; exact HJ4.out), HF4⟩
          case measure => simp [intOf]; omega
        · have HX := Lib.hid hx4
          clear hx4
          gi_wp2_with fail
          refine bodyPost_ret (results_none rfl _ _ _) rfl ?_
          exact ⟨⟨_, rfl⟩, .inr ⟨_, ⟨k + 1, by omega, rfl⟩, by rw [HRS.out]; exact HX.out⟩⟩)
    · obtain rfl : k = ln := by omega
      gi_wp2_with fail
      go_end0
      exact ⟨⟨_, rfl⟩, .inl ⟨_, rfl, HJs.out⟩⟩
theorem round_stops (n : Nat) (hn : 1 ≤ n) (BX BS R D : Nat) (ca : Option Addr) (ck : Nat) (zs : List Int) (s : Int) (w : World) (h1 : 1 ≤ zs.length) (h2 : zs.length ≤ 16) (s0 : 0 ≤ s) (s1 : s ≤ 109951163)
    (hb0 : ¬ out R D BX) (hb1 : ¬ out R D BS) (hca : ∀ b off, ca = some ⟨b, off, none⟩ → ¬ out R D b)
    (hc0 : w.cell? ⟨BX, 3, none⟩ = some (.slice ca zs.length ck)) (hc1 : w.cell? ⟨BS, 0, none⟩ = some (.int .i64 s)) (hw : IntsIn w ca zs.length zs) :
    SeqStopsK Fence.wide n Try.prog 56 #[.pointer (some ⟨BX, 0, none⟩), .pointer (some ⟨BS, 0, none⟩)] encR (Fr (out R D)) (fun xs => xs = rnL zs s zs.length) (fun pre => ∃ k, k ≤ zs.length ∧ pre = rnL zs s k) zs.length w := fun l J Jx W hW hJ _ hY h0 => by
  have hf : Fr no w W := ⟨hW.os, hW.tape, hW.output, hW.size, fun k hk _ => hW.block k hk⟩
  exact round1_in n hn l BX BS R D ca ck zs s w W hf h1 h2 s0 s1 hb0 hb1 hca J Jx hJ hY (hf.keepc hc0) (hf.keepc hc1) hw h0
theorem round_any (v f u : Int) (ca : Option Addr) (ck : Nat) (zs : List Int) (s : Int) (w : World) :
    Calls Try.prog 54 #[.agg #[.int .i64 v, .int .i64 f, .int .i64 u, .slice ca zs.length ck], .int .i64 s] w fun e w' =>
      e = .returned (.func (.func 56) #[] #[.pointer (some ⟨w.heap.size, 0, none⟩), .pointer (some ⟨w.heap.size + 1, 0, none⟩)]) ∧ w' = (w.alloc (.cells #[.int .i64 v, .int .i64 f, .int .i64 u, .slice ca zs.length ck] 24 (0, 0))).alloc (.cells #[.int .i64 s] 3 (0, 0)) := by
  go_enter Try.func54, Try.ntmps54
  go_wp2_with fail
  go_ret
  exact ⟨rfl, rfl⟩

end Go.Proofs.Ytpaoacdgmfaolaa
