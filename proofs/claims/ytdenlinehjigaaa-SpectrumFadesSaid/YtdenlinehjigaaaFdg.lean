/- Conditions of fadings. -/
import Derived.Test.YtdenlinehjigaaaDty
import Derived.Laws.EntriesVeiled
import Derived.Shelf.Abstract
namespace Go.Proofs.Ytdenlinehjigaaa
open Go.RowKit
set_option linter.unusedVariables false

def btwF (a b : Int) (f : Fd) : Bool := (f.fr == -1 || f.fr == a) && (f.to == -1 || f.to == b)
def onChF (c : Int) (f : Fd) : Bool := f.ch == -1 || f.ch == c
def atmF (t : Int) (f : Fd) : Bool := decide (f.fi ≤ t) && decide (t < f.un)
def evrF (f : Fd) : Bool := decide (f.fi < f.un)
set_option maxHeartbeats 1000000 in
theorem betweenC_any (a b : Int) (ba bb : Nat) (f : Fd) (w : World) (ca : w.cell? ⟨ba, 0, none⟩ = some (.int .i64 a)) (cb : w.cell? ⟨bb, 0, none⟩ = some (.int .i64 b)) :
    Calls Try.prog 136 (#[.agg #[.int .i64 f.fr, .int .i64 f.to, .int .i64 f.ch, .int .i64 f.fi, .int .i64 f.un, .int .i64 f.fa]] ++ #[.pointer (some ⟨ba, 0, none⟩), .pointer (some ⟨bb, 0, none⟩)]) w fun e w' => e = .returned (.bool (btwF a b f)) ∧ Fr no w w' := by
  have HB := Lib.hid (show btwF a b f = ((f.fr == -1 || f.fr == a) && (f.to == -1 || f.to == b)) from rfl)
  obtain ⟨fr, to, ch, fi, un, fa⟩ := f
  simp only at HB ⊢
  have l1 := World.block_lt_of_cell? w _ ca
  have l2 := World.block_lt_of_cell? w _ cb
  have HX := Lib.hid (Fr.refl no w)
  go_enter Try.func136, Try.ntmps136
  go_wp2_with fail
  all_goals go_ret
  all_goals exact ⟨by first | (rw [HB.out]; simp [*]; done) | (rw [HB.out]; simp_all; done) | (simp [btwF, *]; done) | (simp_all [btwF]; done), HX.out.alloc _⟩
set_option maxHeartbeats 1000000 in
theorem onC_any (c : Int) (bc : Nat) (f : Fd) (w : World) (cc : w.cell? ⟨bc, 0, none⟩ = some (.int .i64 c)) :
    Calls Try.prog 137 (#[.agg #[.int .i64 f.fr, .int .i64 f.to, .int .i64 f.ch, .int .i64 f.fi, .int .i64 f.un, .int .i64 f.fa]] ++ #[.pointer (some ⟨bc, 0, none⟩)]) w fun e w' => e = .returned (.bool (onChF c f)) ∧ Fr no w w' := by
  obtain ⟨fr, to, ch, fi, un, fa⟩ := f
  have l1 := World.block_lt_of_cell? w _ cc
  have HX := Lib.hid (Fr.refl no w)
  go_enter Try.func137, Try.ntmps137
  go_wp2_with fail
  all_goals go_ret
  all_goals exact ⟨by first | (simp [onChF, *]; done) | (simp_all [onChF]; done), HX.out.alloc _⟩
set_option maxHeartbeats 1000000 in
theorem atC_any (t : Int) (bt : Nat) (f : Fd) (w : World) (cc : w.cell? ⟨bt, 0, none⟩ = some (.int .i64 t)) :
    Calls Try.prog 138 (#[.agg #[.int .i64 f.fr, .int .i64 f.to, .int .i64 f.ch, .int .i64 f.fi, .int .i64 f.un, .int .i64 f.fa]] ++ #[.pointer (some ⟨bt, 0, none⟩)]) w fun e w' => e = .returned (.bool (atmF t f)) ∧ Fr no w w' := by
  obtain ⟨fr, to, ch, fi, un, fa⟩ := f
  have l1 := World.block_lt_of_cell? w _ cc
  have HX := Lib.hid (Fr.refl no w)
  go_enter Try.func138, Try.ntmps138
  go_wp2_with fail
  all_goals go_ret
  all_goals exact ⟨by first | (simp [atmF, *]; done) | (simp_all [atmF]; done) | (simp [atmF, *]; omega), HX.out.alloc _⟩
set_option maxHeartbeats 1000000 in
theorem evC_any (f : Fd) (w : World) :
    Calls Try.prog 141 (#[.agg #[.int .i64 f.fr, .int .i64 f.to, .int .i64 f.ch, .int .i64 f.fi, .int .i64 f.un, .int .i64 f.fa]] ++ #[]) w fun e w' => e = .returned (.bool (evrF f)) ∧ Fr no w w' := by
  obtain ⟨fr, to, ch, fi, un, fa⟩ := f
  have HX := Lib.hid (Fr.refl no w)
  go_enter Try.func141, Try.ntmps141
  go_wp2_with fail
  all_goals go_ret
  all_goals exact ⟨by first | rfl | (simp [evrF, *]; done) | (simp_all [evrF]; done), HX.out.alloc _⟩
/-- A condition: a closure, and what it says. -/
structure Cnd where
  g : Nat
  caps : Array Value
  p : Fd → Bool
def cdAt (cs : List Cnd) (i : Nat) : Cnd := cs.getD i ⟨0, #[], fun _ => false⟩
structure CndOk (w : World) (c : Cnd) : Prop where
  enters : ∀ args w, (callFunc c.g args).run Try.prog w = .ok (.enter c.g args) w
  says : ∀ w', Fr no w w' → ∀ f : Fd, Calls Try.prog c.g (#[.agg #[.int .i64 f.fr, .int .i64 f.to, .int .i64 f.ch, .int .i64 f.fi, .int .i64 f.un, .int .i64 f.fa]] ++ c.caps) w' fun e w'' => e = .returned (.bool (c.p f)) ∧ Fr no w' w''
def CndsIn (w : World) (ao : Option Addr) (len : Nat) (cs : List Cnd) : Prop :=
  cs.length = len ∧ ∀ i, i < len → ∃ b off, ao = some ⟨b, off, none⟩ ∧ w.cell? ⟨b, off + i, none⟩ = some (.func (.func (cdAt cs i).g) #[] (cdAt cs i).caps) ∧ CndOk w (cdAt cs i)
theorem CndOk.kept {w w' : World} {c : Cnd} (h : CndOk w c) (hf : Fr no w w') : CndOk w' c := ⟨h.enters, fun w2 h2 f => h.says w2 (hf.noTrans h2) f⟩
theorem CndsIn.kept {w w' : World} {ao : Option Addr} {len : Nat} {cs : List Cnd} (h : CndsIn w ao len cs) (hf : Fr no w w') : CndsIn w' ao len cs := ⟨h.1, fun i hi => by
  obtain ⟨b, off, ha, hc, hk⟩ := h.2 i hi
  exact ⟨b, off, ha, hf.keepc hc, hk.kept hf⟩⟩
def cdB (cs : List Cnd) (f : Fd) : Bool := cs.all fun c => c.p f
theorem enter136 (args : Array Value) (w : World) : (callFunc 136 args).run Try.prog w = .ok (.enter 136 args) w := Go.Proofs.enters_of Try.func136 (by kernel_rfl) rfl args w
theorem enter137 (args : Array Value) (w : World) : (callFunc 137 args).run Try.prog w = .ok (.enter 137 args) w := Go.Proofs.enters_of Try.func137 (by kernel_rfl) rfl args w
theorem enter138 (args : Array Value) (w : World) : (callFunc 138 args).run Try.prog w = .ok (.enter 138 args) w := Go.Proofs.enters_of Try.func138 (by kernel_rfl) rfl args w
theorem enter141 (args : Array Value) (w : World) : (callFunc 141 args).run Try.prog w = .ok (.enter 141 args) w := Go.Proofs.enters_of Try.func141 (by kernel_rfl) rfl args w
set_option maxHeartbeats 4000000 in
theorem applies_any (f : Fd) (ao : Option Addr) (len cap : Nat) (cs : List Cnd) (w : World) (hc : CndsIn w ao len cs) (hl : len ≤ 8) :
    Calls Try.prog 135 #[.agg #[.int .i64 f.fr, .int .i64 f.to, .int .i64 f.ch, .int .i64 f.fi, .int .i64 f.un, .int .i64 f.fa], .slice ao len cap] w fun e w' => e = .returned (.bool (cdB cs f)) ∧ Fr no w w' := by
  obtain ⟨W, hW⟩ : ∃ W, W = w.alloc (.cells #[.int .i64 f.fr, .int .i64 f.to, .int .i64 f.ch, .int .i64 f.fi, .int .i64 f.un, .int .i64 f.fa] 66 (0, 0)) := ⟨_, rfl⟩
  have hF : Fr no w W := by rw [hW]; exact (Fr.refl no w).alloc _
  have h1 : W.heap[w.heap.size]? = some (.cells #[.int .i64 f.fr, .int .i64 f.to, .int .i64 f.ch, .int .i64 f.fi, .int .i64 f.un, .int .i64 f.fa] 66 (0, 0)) := by rw [hW]; exact heap_alloc_new w _
  have HC := Lib.hid (hc.kept hF)
  have HL := Lib.hid hc.1
  have HF := Lib.hid hF
  have HW := Lib.hid hW
  have H1 := Lib.hid h1
  have HLL := Lib.hid hl
  have HB := Lib.hid (show cdB cs f = cs.all (fun c => c.p f) from rfl)
  clear hc hF hW h1 hl
  go_enter Try.func135, Try.ntmps135
  go_wp2_with fail
  rw [← HW.out]
  go_loopw [6, 9] (fun _ i wr => ∃ k : Nat, k ≤ len ∧ i = .int .i64 k ∧ Hid ((cs.take k).all (fun c => c.p f) = true) ∧ Hid (Fr no W wr)) (fun _ i _ => len - (intOf i).toNat)
  case atStart => exact ⟨0, Nat.zero_le _, rfl, Lib.hid (by simp), Lib.hid (Fr.refl _ _)⟩
  case round =>
    obtain ⟨k, hk, rfl, HA, F⟩ := hrel
    by_cases hlt : k < len
    · obtain ⟨b, off, rfl, e0, hok⟩ := (HC.out.kept F.out).2 k hlt
      obtain ⟨d0, d1, d2, d3, d4, d5⟩ := six_cellsP (F.out.blk H1.out (fun h => h))
      have HT := Lib.hid (all_take (fun c : Cnd => c.p f) ⟨0, #[], fun _ => false⟩ cs k (by have := HL.out; omega))
      have HN := Lib.hid (all_no (fun c : Cnd => c.p f) ⟨0, #[], fun _ => false⟩ cs k (by have := HL.out; omega))
      have hkn : (k : Int) < (len : Int) := by omega
      have hk8 : (k : Int) ≤ 7 := by have := HLL.out; omega
      have HG := Lib.hid (show cs.getD k ⟨0, #[], fun _ => false⟩ = cdAt cs k from rfl)
      rw [HG.out] at HT HN
      generalize cdAt cs k = c at *
      obtain ⟨g, caps, p⟩ := c
      have eg := hok.enters
      simp only at eg HT HN e0
      have HS := Lib.hid hok.says
      clear hok HG
      have hlt0 := World.block_lt_of_cell? wr _ e0
      have hlt1 := World.block_lt_of_cell? wr _ d0
      cases hp : p f
      · have HV := Lib.hid (HN.out hp)
        have HK := Lib.hid (fun w' h => by have := HS.out w' h f; simp only at this; rw [hp] at this; exact this)
        clear hp
        go_wp2_with fail
        refine (HK.out _ ((Fr.refl no wr).alloc _)).mono ?_
        rintro e w3 ⟨rfl, f3⟩
        have F3 := Lib.hid ((F.out.alloc _).noTrans f3)
        clear f3
        go_wp2_with fail
        go_ret
        rw [HB.out, HV.out]
        exact ⟨rfl, HF.out.noTrans F3.out⟩
      · have HV := Lib.hid (show (cs.take (k + 1)).all (fun c => c.p f) = true by rw [HT.out, HA.out, hp]; rfl)
        have HK := Lib.hid (fun w' h => by have := HS.out w' h f; simp only at this; rw [hp] at this; exact this)
        clear hp
        go_wp2_with fail
        refine (HK.out _ ((Fr.refl no wr).alloc _)).mono ?_
        rintro e w3 ⟨rfl, f3⟩
        have F3 := Lib.hid ((F.out.alloc _).noTrans f3)
        clear f3
        go_wp2_with fail
        go_roundw
        case rel => exact ⟨k + 1, by omega, by go_num, HV, F3⟩
        case measure => simp [intOf]; omega
    · have HV := Lib.hid (show cs.all (fun c => c.p f) = true by have := HA.out; rwa [List.take_of_length_le (by have := HL.out; omega)] at this)
      go_wp2_with fail
      go_ret
      rw [HB.out, HV.out]
      exact ⟨rfl, HF.out.noTrans F.out⟩
end Go.Proofs.Ytdenlinehjigaaa
