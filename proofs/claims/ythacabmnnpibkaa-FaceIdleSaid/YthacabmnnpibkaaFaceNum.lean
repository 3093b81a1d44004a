
/- The walks of layer 3's head 'speaks' and of FaceNumbers. Condition: numbers of two bytes. -/
import Derived.Test.YthacabmnnpibkaaPlainF
namespace Go.Proofs.Ythacabmnnpibkaa
open Go.RowKit Go.Lib

theorem plain_z (g e m : Nat) (x y z : Int) (hx : x = (g : Nat)) (hy : y = (e : Nat)) (hz : z = (m : Nat)) (w : World) (hg : g ≤ 65535) (he : e ≤ 65535) (hm : m ≤ 65535) :
    Calls Try.prog 10 #[.int .i64 x, .int .i64 y, .int .i64 z] w fun r w' => ∃ (p1 p2 p3 : PartV) (b : Nat), r = .returned (.slice (some ⟨b, 0, none⟩) 3 3) ∧ w'.ownsRow w.heap.size 27 2 (.slice (some ⟨b, 0, none⟩) 3 3) 3 (encAll [p1, p2, p3]) ∧
      Bytes w' w.heap.size p1 ∧ Bytes w' w.heap.size p2 ∧ Bytes w' w.heap.size p3 ∧ p1.tag = sMaxp ∧ p2.tag = sHead ∧ p3.tag = sHhea ∧ p1.bs = maxpB g ∧ p2.bs = headB e ∧ p3.bs = hheaB m ∧ Below w.heap.size w w' := by
  subst hx; subst hy; subst hz; exact plain_any g e m w (by omega) (by omega) (by omega)
theorem no_good (x y z : Nat) : ¬ Good [] x y z := by
  rintro ⟨j1, j2, j3, hx⟩
  have := hx.t1.1.1.1.six
  simp at this

set_option maxRecDepth 100000 in
set_option maxHeartbeats 1600000 in
theorem speaks_face (w : World) : Calls Try.prog 9 #[] w fun e w' => e = .returned (.bool true) ∧ Below w.heap.size w w' := by
  have hAC := allocC
  go_enter Try.func9, Try.ntmps9
  go_wp2_with fail
  refine (plain_z 3 1000 2 _ _ _ rfl rfl rfl w (by omega) (by omega) (by omega)).mono ?_
  rintro r w1 ⟨p1, p2, p3, b, rfl, ho, o1, o2, o3, t1, t2, t3, b1, b2, b3, hb1⟩
  have HM := Lib.hid (rmake_plain b p1 p2 p3 _ w1 ho o1 o2 o3 t1 t2 t3 b1 b2 b3 (by omega) (by omega) (by omega))
  have HB1 := Lib.hid hb1
  clear ho o1 o2 o3 t1 t2 t3 b1 b2 b3 hb1
  go_wp2_with fail
  refine HM.out.mono ?_
  rintro r w2 ⟨a2, n2, c2, F, rfl, hF, hFl, k1, k2, hP, hb2⟩
  have HR := Lib.hid (fread_any a2 n2 c2 F w2 hF hFl k1 k2)
  have HP := Lib.hid hP
  have HB2 := Lib.hid (HB1.out.trans (hb2.mono HB1.out.size))
  clear HM hF hFl hP hb2
  go_wp2_with fail
  refine HR.out.mono ?_
  rintro r w3 ⟨(⟨x, y, z, hG, _, rfl⟩ | ⟨hno, _⟩), hb3⟩
  case inr => exact absurd ((HP.out 3 1000 2).2 (by omega)) (hno 3 1000 2)
  obtain ⟨rfl, rfl, rfl, _⟩ := (HP.out x y z).1 hG
  have HB3 := Lib.hid (HB2.out.trans (hb3.mono HB2.out.size))
  clear HR hG hb3
  unfold faceV
  go_wp2_with fail
  refine (fread_any none 0 0 [] _ (Has.nil _ _) rfl (Nat.le_refl _) (by decide)).mono ?_
  rintro r w4 ⟨(⟨x, y, z, hG, _, rfl⟩ | ⟨_, rfl⟩), hb4⟩
  case inl => exact absurd hG (no_good x y z)
  have e0 := (hb4.cell (p := ⟨w3.heap.size, 0, none⟩) (by simp)).trans (show _ = some (.int .i64 3) by rw [hAC, if_pos rfl]; rfl)
  have e1 := (hb4.cell (p := ⟨w3.heap.size, 1, none⟩) (by simp)).trans (show _ = some (.int .i64 1000) by rw [hAC, if_pos rfl]; rfl)
  have e2 := (hb4.cell (p := ⟨w3.heap.size, 2, none⟩) (by simp)).trans (show _ = some (.int .i64 2) by rw [hAC, if_pos rfl]; rfl)
  have hz4 := hb4.size
  simp only [World.size_alloc] at hz4
  have HB4 := Lib.hid (HB3.out.trans ((show Below w3.heap.size w3 w4 from bthen (balloc (brefl w3) _) hb4).mono HB3.out.size))
  have hne : ¬ w3.heap.size = w4.heap.size := by omega
  clear hb4
  unfold faceV
  go_wp2
  go_ret
  exact ⟨rfl, HB4.out.trans ((balloc (brefl w4) _).mono HB4.out.size)⟩

end Go.Proofs.Ythacabmnnpibkaa
