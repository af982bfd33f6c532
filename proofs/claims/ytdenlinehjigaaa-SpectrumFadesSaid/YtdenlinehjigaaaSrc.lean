/- Transmitters. -/
import Derived.Test.YtdenlinehjigaaaLea
namespace Go.Proofs.Ytdenlinehjigaaa
open Go.RowKit
set_option linter.unusedVariables false

theorem six_cellsP {w : World} {B T : Nat} {a b c d e f : Value} (h : w.heap[B]? = some (.cells #[a, b, c, d, e, f] T (0, 0))) :
    w.cell? ⟨B, 0, none⟩ = some a ∧ w.cell? ⟨B, 1, none⟩ = some b ∧ w.cell? ⟨B, 2, none⟩ = some c ∧ w.cell? ⟨B, 3, none⟩ = some d ∧ w.cell? ⟨B, 4, none⟩ = some e ∧ w.cell? ⟨B, 5, none⟩ = some f := by
  simp [World.cell?, h]
theorem seven_cells {w : World} {B T : Nat} {a b c d e f g : Value} (h : w.heap[B]? = some (.cells #[a, b, c, d, e, f, g] T (0, 0))) :
    w.cell? ⟨B, 0, none⟩ = some a ∧ w.cell? ⟨B, 1, none⟩ = some b ∧ w.cell? ⟨B, 2, none⟩ = some c ∧ w.cell? ⟨B, 3, none⟩ = some d ∧ w.cell? ⟨B, 4, none⟩ = some e ∧ w.cell? ⟨B, 5, none⟩ = some f ∧ w.cell? ⟨B, 6, none⟩ = some g := by
  simp [World.cell?, h]
theorem two_cells {w : World} {B T : Nat} {a b : Value} (h : w.heap[B]? = some (.cells #[a, b] T (0, 0))) : w.cell? ⟨B, 0, none⟩ = some a ∧ w.cell? ⟨B, 1, none⟩ = some b := by
  simp [World.cell?, h]
/-- A transmitter. -/
structure Src where
  x : Int
  y : Int
  pw : Int
  chs : List Int
  per : Int
  fr : Int
  to : Int
def fdAt (fs : List Fd) (i : Nat) : Fd := fs.getD i ⟨0, 0, 0, 0, 0, 0⟩
def srAt (ss : List Src) (i : Nat) : Src := ss.getD i ⟨0, 0, 0, [], 0, 0, 0⟩
def FdsIn (w : World) (ao : Option Addr) (len : Nat) (fs : List Fd) : Prop :=
  fs.length = len ∧ ∀ i, i < len → ∃ b off, ao = some ⟨b, off, none⟩ ∧ w.cell? ⟨b, off + i * 6, none⟩ = some (.int .i64 (fdAt fs i).fr) ∧ w.cell? ⟨b, off + i * 6 + 1, none⟩ = some (.int .i64 (fdAt fs i).to) ∧
    w.cell? ⟨b, off + i * 6 + 2, none⟩ = some (.int .i64 (fdAt fs i).ch) ∧ w.cell? ⟨b, off + i * 6 + 3, none⟩ = some (.int .i64 (fdAt fs i).fi) ∧ w.cell? ⟨b, off + i * 6 + 4, none⟩ = some (.int .i64 (fdAt fs i).un) ∧ w.cell? ⟨b, off + i * 6 + 5, none⟩ = some (.int .i64 (fdAt fs i).fa)
theorem FdsIn.kept {w w' : World} {ao : Option Addr} {len : Nat} {zs : List Fd} (h : FdsIn w ao len zs) (hf : Fr no w w') : FdsIn w' ao len zs := ⟨h.1, fun i hi => by
  obtain ⟨b, off, ha, h0, h1, h2, h3, h4, h5⟩ := h.2 i hi
  exact ⟨b, off, ha, hf.keepc h0, hf.keepc h1, hf.keepc h2, hf.keepc h3, hf.keepc h4, hf.keepc h5⟩⟩
def SrcsIn (w : World) (ao : Option Addr) (len : Nat) (ss : List Src) : Prop :=
  ss.length = len ∧ ∀ i, i < len → ∃ b off ca ck, ao = some ⟨b, off, none⟩ ∧ IntsIn w ca (srAt ss i).chs.length (srAt ss i).chs ∧ w.cell? ⟨b, off + i * 7, none⟩ = some (.int .i64 (srAt ss i).x) ∧ w.cell? ⟨b, off + i * 7 + 1, none⟩ = some (.int .i64 (srAt ss i).y) ∧
    w.cell? ⟨b, off + i * 7 + 2, none⟩ = some (.int .i64 (srAt ss i).pw) ∧ w.cell? ⟨b, off + i * 7 + 3, none⟩ = some (.slice ca (srAt ss i).chs.length ck) ∧ w.cell? ⟨b, off + i * 7 + 4, none⟩ = some (.int .i64 (srAt ss i).per) ∧ w.cell? ⟨b, off + i * 7 + 5, none⟩ = some (.int .i64 (srAt ss i).fr) ∧ w.cell? ⟨b, off + i * 7 + 6, none⟩ = some (.int .i64 (srAt ss i).to)
theorem SrcsIn.kept {w w' : World} {ao : Option Addr} {len : Nat} {zs : List Src} (h : SrcsIn w ao len zs) (hf : Fr no w w') : SrcsIn w' ao len zs := ⟨h.1, fun i hi => by
  obtain ⟨b, off, ca, ck, ha, hI, h0, h1, h2, h3, h4, h5, h6⟩ := h.2 i hi
  exact ⟨b, off, ca, ck, ha, hI.kept hf, hf.keepc h0, hf.keepc h1, hf.keepc h2, hf.keepc h3, hf.keepc h4, hf.keepc h5, hf.keepc h6⟩⟩
/-- Channels, greater than l, in strictly increasing order. -/
def chsF (l : Int) : List Int → Bool
  | [] => true
  | c :: cs => decide (l < c) && inR c 0 15 && chsF c cs
def chsB (cs : List Int) : Bool := chsF (-1) cs
def lastC (cs : List Int) : Nat → Int
  | 0 => -1
  | k + 1 => cs.getD k 0
theorem chsF_drop (l : Int) (cs : List Int) (k : Nat) (hk : k < cs.length) : chsF l (cs.drop k) = (decide (l < cs.getD k 0) && inR (cs.getD k 0) 0 15 && chsF (cs.getD k 0) (cs.drop (k + 1))) := by
  rw [List.drop_eq_getElem_cons hk]
  simp [chsF, List.getD_eq_getElem?_getD, List.getElem?_eq_getElem hk]
theorem chsF_end (l : Int) (cs : List Int) (k : Nat) (hk : cs.length ≤ k) : chsF l (cs.drop k) = true := by
  rw [List.drop_eq_nil_of_le hk]; rfl
set_option maxHeartbeats 4000000 in
theorem areChannels_any (ao : Option Addr) (len cap : Nat) (zs : List Int) (w : World) (hz : IntsIn w ao len zs) (hl : len ≤ 40) :
    Calls Try.prog 131 #[.slice ao len cap] w fun e w' => e = .returned (.bool (chsB zs)) ∧ w' = w := by
  have HZ := Lib.hid hz
  have HL := Lib.hid hl
  have hzl := hz.1
  have HZL := Lib.hid hzl
  clear hz hl hzl
  go_enter Try.func131, Try.ntmps131
  go_wp2_with fail
  go_loopw [3, 5, 8] (fun l _ i wr => ∃ k : Nat, k ≤ len ∧ i = .int .i64 k ∧ l = .int .i64 (lastC zs k) ∧ chsB zs = chsF (lastC zs k) (zs.drop k) ∧ wr = w) (fun _ _ i _ => len - (intOf i).toNat)
  case atStart => exact ⟨0, Nat.zero_le _, rfl, rfl, by simp [lastC, chsB], rfl⟩
  case round =>
    obtain ⟨k, hk, rfl, rfl, ha, rfl⟩ := hrel
    have HA := Lib.hid ha
    clear ha
    by_cases hlt : k < len
    · obtain ⟨b, off, rfl, hc0⟩ := HZ.out.2 k hlt
      have HT := Lib.hid (chsF_drop (lastC zs k) zs k (by have := HZL.out; omega))
      have hkI : (k : Int) ≤ 39 := by have := HL.out; omega
      have HS := Lib.hid (show lastC zs (k + 1) = zs.getD k 0 from rfl)
      generalize zs.getD k 0 = z at *
      generalize lastC zs k = l at *
      by_cases h1 : z ≤ l
      · have HV := Lib.hid (show chsB zs = false by rw [HA.out, HT.out]; simp; omega)
        go_wp2_with fail
        go_ret
        rw [HV.out]
        exact ⟨rfl, rfl⟩
      · have h2 : l < z := by omega
        cases hp : inR z 0 15
        · have HK := isChannel_any z
          rw [hp] at HK
          have HV := Lib.hid (show chsB zs = false by rw [HA.out, HT.out, hp]; simp)
          have HK := Lib.hid HK
          clear hp
          go_wp2_with fail
          refine (HK.out _).mono ?_
          rintro e w3 ⟨rfl, rfl⟩
          go_wp2_with fail
          go_ret
          rw [HV.out]
          exact ⟨rfl, rfl⟩
        · have HK := isChannel_any z
          rw [hp] at HK
          have HV := Lib.hid (show chsB zs = chsF z (zs.drop (k + 1)) by rw [HA.out, HT.out, hp]; simp [h2])
          have HK := Lib.hid HK
          clear hp
          go_wp2_with fail
          refine (HK.out _).mono ?_
          rintro e w3 ⟨rfl, rfl⟩
          go_wp2_with fail
          go_roundw
          case rel => exact ⟨k + 1, by omega, by go_num, by rw [HS.out], by rw [HS.out]; exact HV.out, trivial⟩
          case measure => simp [intOf]; omega
    · have HV := Lib.hid (show chsB zs = true by rw [HA.out]; exact chsF_end _ _ _ (by have := HZL.out; omega))
      go_wp2_with fail
      go_ret
      rw [HV.out]
      exact ⟨rfl, rfl⟩
def srB (s : Src) : Bool := ptB s.x s.y && inR s.pw 0 68719476736 && chsB s.chs && inR s.per 1 1000000000 && (decide (0 ≤ s.fr) && decide (s.fr ≤ s.to) && decide (s.to ≤ s.per))
set_option maxHeartbeats 4000000 in
theorem isSource_any (ca : Option Addr) (ck : Nat) (s : Src) (w : World) (hz : IntsIn w ca s.chs.length s.chs) (hl : s.chs.length ≤ 40) : Calls Try.prog 81 #[.agg #[.int .i64 s.x, .int .i64 s.y, .int .i64 s.pw, .slice ca s.chs.length ck, .int .i64 s.per, .int .i64 s.fr, .int .i64 s.to]] w fun e w' => e = .returned (.bool (srB s)) ∧ Fr no w w' := by
  obtain ⟨x, y, pw, chs, per, fr, to⟩ := s
  simp only at hz hl ⊢
  obtain ⟨W, hW⟩ : ∃ W, W = w.alloc (.cells #[.int .i64 x, .int .i64 y, .int .i64 pw, .slice ca chs.length ck, .int .i64 per, .int .i64 fr, .int .i64 to] 49 (0, 0)) := ⟨_, rfl⟩
  have hF : Fr no w W := by rw [hW]; exact (Fr.refl no w).alloc _
  have h1 : W.heap[w.heap.size]? = some (.cells #[.int .i64 x, .int .i64 y, .int .i64 pw, .slice ca chs.length ck, .int .i64 per, .int .i64 fr, .int .i64 to] 49 (0, 0)) := by rw [hW]; exact heap_alloc_new w _
  have HZ := Lib.hid (fun w' (h : Fr no W w') => hz.kept (hF.noTrans h))
  have HF := Lib.hid hF
  have HW := Lib.hid hW
  have HL := Lib.hid hl
  have H1 := Lib.hid h1
  clear hz hF hW hl h1
  go_enter Try.func81, Try.ntmps81
  go_wp2_with fail
  rw [← HW.out]
  refine (isPointS_any x y W).mono ?_
  rintro e w1 ⟨rfl, f1⟩
  obtain ⟨c0, c1, c2, c3, c4, c5, c6⟩ := seven_cells (f1.blk H1.out (fun h => h))
  have HG := Lib.hid (HF.out.noTrans f1)
  have HA := Lib.hid (areChannels_any ca chs.length ck chs w1 (HZ.out w1 f1) HL.out)
  clear f1
  have HR := Lib.hid (show srB ⟨x, y, pw, chs, per, fr, to⟩ = (ptB x y && inR pw 0 68719476736 && chsB chs && inR per 1 1000000000 && (decide (0 ≤ fr) && decide (fr ≤ to) && decide (to ≤ per))) from rfl)
  generalize ptB x y = A at *
  generalize chsB chs = B at *
  go_wp2_with (first | (go_at_call_of 103 pw; refine (withinS_any pw _ _ _).mono ?_; rintro e w' ⟨rfl, rfl⟩) | (go_at_call 131; refine HA.out.mono ?_; rintro e w' ⟨rfl, rfl⟩) | (go_at_call_of 103 per; refine (withinS_any per _ _ _).mono ?_; rintro e w' ⟨rfl, rfl⟩) | (go_at_call 132; refine (isPart_any fr to per _).mono ?_; rintro e w' ⟨rfl, rfl⟩))
  all_goals go_ret
  all_goals rw [HR.out]
  all_goals exact ⟨by first | rfl | (simp [*]; done) | (simp_all; done), HG.out⟩
end Go.Proofs.Ytdenlinehjigaaa
