
/- Package feat: Exclusive, and that the layer speaks. Conditions: as each says. -/
import Derived.Test.YtfnghinefbmlmaaFeatX
import Derived.Test.YtfnghinefbmlmaaShelfG
namespace Go.Proofs.Ytfnghinefbmlmaa
open Go.RowKit Go.Lib Go.Shelf

structure FEnt where
  ty : Nat
  ex : Bool
  df : Int
  s : Value
instance : Inhabited FEnt := ⟨⟨0, false, 0, .bool false⟩⟩
def FEnt.enc (f : FEnt) : List Value := [.int .i64 (f.ty : Nat), .bool f.ex, .int .i64 f.df, f.s]
def fents (fs : List FEnt) : List Value := fs.flatMap FEnt.enc
theorem fents_get : ∀ (fs : List FEnt) (k : Nat) (f : FEnt), fs[k]? = some f → ∀ o, o < 4 → (fents fs)[k * 4 + o]? = f.enc[o]?
  | [], _, _, h, _, _ => by simp at h
  | x :: fs, 0, p, h, o, ho => by
    simp at h; subst h
    show (x.enc ++ fents fs)[0 * 4 + o]? = _
    rw [Nat.zero_mul, Nat.zero_add, List.getElem?_append_left (by simpa [FEnt.enc] using ho)]
  | x :: fs, k + 1, p, h, o, ho => by
    have := fents_get fs k p (by simpa using h) o ho
    show (x.enc ++ fents fs)[(k + 1) * 4 + o]? = _
    rw [List.getElem?_append_right (by simp [FEnt.enc]; omega), show (k + 1) * 4 + o - (x.enc).length = k * 4 + o by simp [FEnt.enc]; omega, this]
def hitF (kind : Int) (f : FEnt) : Bool := ((f.ty : Int) == kind) && f.ex
theorem excl1_any (f : FEnt) (gk : Nat) (kind : Int) (w : World) (hc : w.cell? ⟨gk, 0, none⟩ = some (.int .i64 kind)) :
    Calls Try.prog 42 #[.agg #[.int .i64 (f.ty : Nat), .bool f.ex, .int .i64 f.df, f.s], .pointer (some ⟨gk, 0, none⟩)] w fun e w' => e = .returned (.bool (hitF kind f)) ∧ Below w.heap.size w w' := by
  have hAC := allocC
  have hAF := allocF
  have hl := cell_lt hc
  simp only at hl
  obtain ⟨ty, ex, df, s⟩ := f
  have HE := Lib.hid (show hitF kind ⟨ty, ex, df, s⟩ = (((ty : Int) == kind) && ex) from rfl)
  generalize hitF kind ⟨ty, ex, df, s⟩ = r at *
  cases hq : ((ty : Int) == kind) with
  | false =>
    obtain rfl : r = false := by rw [HE.out, hq]; rfl
    clear HE
    go_enter Try.func42, Try.ntmps42
    go_wp2_with fail
    go_ret
    exact ⟨rfl, blw⟩
  | true =>
    obtain rfl : r = ex := by rw [HE.out, hq]; rfl
    clear HE
    go_enter Try.func42, Try.ntmps42
    go_wp2_with fail
    go_ret
    exact ⟨rfl, blw⟩
theorem excl_any (blk n c : Nat) (fs : List FEnt) (kind : Int) (w : World) (h : Has w (some ⟨blk, 0, none⟩) (fents fs)) (hn : fs.length = n) (hn2 : n ≤ 65535) (hb : blk < w.heap.size) :
    Calls Try.prog 26 #[.slice (some ⟨blk, 0, none⟩) n c, .int .i64 kind] w fun e w' => e = .returned (.bool (fs.any (hitF kind))) ∧ Below w.heap.size w w' := by
  have hAC := allocC
  have hAF := allocF
  have hmf : ∀ (fn : Fn) (first cap : Array Value) (w : World), (Instr.makeFunc fn first cap).run Try.prog w = .ok (.func fn first cap) w := fun _ _ _ _ => rfl
  have HX := Lib.hid (show Calls Try.prog 41 #[.slice (some ⟨blk, 0, none⟩) n c, .func (.func 42) #[] #[.pointer (some ⟨w.heap.size, 0, none⟩)]] (w.alloc (.cells #[.int .i64 kind] 3)) fun e w' => e = .returned (.bool (fs.any (hitF kind))) ∧ Below (w.alloc (.cells #[.int .i64 kind] 3)).heap.size (w.alloc (.cells #[.int .i64 kind] 3)) w' from by
    have eg : ∀ args w, (callFunc 42 args).run Try.prog w = .ok (.enter 42 args) w := enters_of Try.func42 (by kernel_rfl) rfl
    have h' := h.below (balloc (brefl w) (.cells #[.int .i64 kind] 3))
    have hcon := AnyQ.slices_ContainsFunc Try.hasFeature 4 Try.isAgg36 Try.sizeOf36 FEnt.enc (fun _ => rfl) (hitF kind) 42 #[.pointer (some ⟨w.heap.size, 0, none⟩)] eg blk 0 n c fs (w.alloc (.cells #[.int .i64 kind] 3))
      (fun W x hW => (excl1_any x w.heap.size kind W ((hW.cell (p := ⟨w.heap.size, 0, none⟩) (by simp)).trans (by rw [allocC, if_pos rfl]; rfl))).mono fun e w' ⟨he, hb'⟩ => ⟨he, hW.trans (hb'.mono hW.size)⟩)
      (by omega) (by omega) (by simp; omega) (fun j hj i v hv => by
        have hx := List.getElem?_eq_getElem hj
        have e1 : fs[j]! = fs[j] := by rw [List.getElem!_eq_getElem?_getD, hx]; rfl
        rw [e1] at hv
        have hi : i < 4 := (List.getElem?_eq_some_iff.1 hv).1
        obtain ⟨p, hp, hcell⟩ := h' (j * 4 + i) v (by rw [fents_get fs j _ hx i hi]; exact hv)
        cases hp
        have e2 : (⟨blk, 0, none⟩ : Addr).add (j * 4 + i) = ⟨blk, 0 + j * 4 + i, none⟩ := by simp only [Addr.add]; split <;> simp_all
        rwa [e2] at hcell)
    rw [List.take_of_length_le (by omega)] at hcon
    exact hcon)
  clear h
  go_enter Try.func26, Try.ntmps26
  go_wp2_with (first | (go_at_call 41; (with_reducible refine HX.out.mono ?_); rintro e w1 ⟨rfl, hb1⟩))
  go_ret
  exact ⟨rfl, blw⟩
theorem ftV_fents (bs : List UInt8) : ∀ (hs : List Nat) (i : Nat), ∃ fs : List FEnt, fs.length = hs.length ∧ ftV bs i hs = fents fs ∧ ∀ k f, fs[k]? = some f → f.ty = fTy bs (i + k) ∧ f.ex = bt (fFl bs (i + k)) 15
  | [], i => ⟨[], rfl, rfl, fun k f h => by simp at h⟩
  | h :: hs, i => by
    obtain ⟨fs, h1, h2, h3⟩ := ftV_fents bs hs (i + 1)
    refine ⟨⟨fTy bs i, bt (fFl bs i) 15, dfF (fSb bs i) (fMany bs i) (fFl bs i), .slice (some ⟨h, 0, none⟩) (fMany bs i) (fMany bs i)⟩ :: fs, by simp [h1], by rw [ftV, h2]; rfl, fun k f hk => ?_⟩
    match k with
    | 0 => simp at hk; subst hk; exact ⟨rfl, rfl⟩
    | k + 1 =>
      have := h3 k f (by simpa using hk)
      rwa [show i + 1 + k = i + (k + 1) by omega] at this
def ps0 (g : Nat) : List PlanF := [⟨3, 49153, some ⟨g, 0, none⟩, 2, [4, 5]⟩]
theorem ps0_b (g : Nat) : PlB (ps0 g) := ⟨by show 1 ≤ 30; decide, fun p hp => by
  simp [ps0] at hp
  subst hp
  refine ⟨by show 3 ≤ 65535; decide, by show 49153 ≤ 65535; decide, by show 2 ≤ 60; decide, fun s hs => ?_⟩
  simp at hs
  omega⟩
theorem ps0_ok (g : Nat) : FtOk (writeF (ps0 g)) := (write_ok (ps0_b g)).2 fun i p q hp hq => by
  have := (List.getElem?_eq_some_iff.1 hq).1
  simp [ps0] at this
theorem ps0_cells (g h : Nat) : ftC (writeF (ps0 g)) 0 h = [.int .i64 3, .bool true, .int .i64 5, .slice (some ⟨h, 0, none⟩) 2 2] := by
  have e : (ps0 g)[0]? = some ⟨3, 49153, some ⟨g, 0, none⟩, 2, [4, 5]⟩ := rfl
  unfold ftC
  rw [w_ty (ps0_b g) e, w_fl (ps0_b g) e, w_many (ps0_b g) e, w_sb (ps0_b g) e]
  have a1 : bt 49153 15 = true := by decide
  have a2 : dfF (setBy [4, 5]) 2 49153 = 5 := by decide
  show [_, Value.bool (bt 49153 15), Value.int .i64 (dfF (setBy [4, 5]) 2 49153), _] = _
  rw [a1, a2]
  rfl
set_option maxRecDepth 100000 in
set_option maxHeartbeats 1600000 in
theorem speaks8_any (w : World) : Calls Try.prog 11 #[] w fun e w' => e = .returned (.bool true) ∧ Below w.heap.size w w' := by
  have hAC := allocC
  have hAF := allocF
  go_enter Try.func11, Try.ntmps11
  go_wp2_with fail
  obtain ⟨V, hV⟩ : ∃ V, V = (w.alloc (Obj.cells #[.int .u16 4, .int .u16 5] 24)).alloc (Obj.cells #[.int .u16 3, .int .u16 49153, .slice (some ⟨w.heap.size, 0, none⟩) 2 2] 27) := ⟨_, rfl⟩
  have hb : Below w.heap.size w V := by rw [hV]; exact blw
  have hH : Has V (some ⟨w.heap.size + 1, 0, none⟩) (plansF (ps0 w.heap.size)) := by
    rw [hV]
    have := has_alloc (w.alloc (Obj.cells #[.int .u16 4, .int .u16 5] 24)) #[.int .u16 3, .int .u16 49153, .slice (some ⟨w.heap.size, 0, none⟩) 2 2] 27
    rw [World.size_alloc] at this
    exact this
  have hS : Has V (some ⟨w.heap.size, 0, none⟩) (n16V [4, 5]) := by rw [hV]; exact (has_alloc w _ _).below (balloc (brefl _) _)
  have HW := Lib.hid (write8_any (some ⟨w.heap.size + 1, 0, none⟩) 1 1 (ps0 w.heap.size) V hH rfl ⟨by show 1 ≤ 30; decide, fun p hp => by
    have h2 := (ps0_b w.heap.size).each p hp
    refine ⟨h2.1, h2.2.1, h2.2.2.1, h2.2.2.2, ?_⟩
    simp [ps0] at hp
    subst hp
    exact hS⟩)
  have HB := Lib.hid hb
  rw [← hV]
  clear hV hb hH hS
  refine HW.out.mono ?_
  rintro e w1 ⟨a1, c1, rfl, ho1, hb1⟩
  obtain ⟨_, _, he, k1, k2, k3⟩ := owns_slice ho1
  cases he
  have HB1 := Lib.hid (HB.out.trans (hb1.mono HB.out.size))
  have HR := Lib.hid (fread_any a1 (writeF (ps0 w.heap.size)).length c1 (writeF (ps0 w.heap.size)) w1 (has_of_owns ho1) rfl k1 k2)
  have HOK := Lib.hid (ps0_ok w.heap.size)
  have HN := Lib.hid (show num (writeF (ps0 w.heap.size)) 4 2 = 1 from writeF_n (ps0 w.heap.size) (by show 1 ≤ 65535; decide))
  have HC := Lib.hid (ps0_cells w.heap.size)
  have HFT := Lib.hid (show fTy (writeF (ps0 w.heap.size)) 0 = 3 from w_ty (ps0_b _) (i := 0) rfl)
  have HFL := Lib.hid (show bt (fFl (writeF (ps0 w.heap.size)) 0) 15 = true from by rw [w_fl (ps0_b _) (i := 0) rfl]; show bt 49153 15 = true; decide)
  clear ho1 hb1 k1 k2 k3 HW
  generalize hF : writeF (ps0 w.heap.size) = F at *
  clear hF
  generalize F.length = L at *
  go_wp2_with fail
  refine HR.out.mono ?_
  rintro e w2 ⟨(⟨g, hs, _, rfl, hm⟩ | ⟨hno, _⟩), hb2⟩
  case inr => exact absurd HOK.out hno
  have hlen := hm.len
  have hrow := hm.row
  rw [HN.out] at hlen hrow ⊢
  obtain ⟨h, rfl⟩ : ∃ h, hs = [h] := by match hs, hlen with | [h], _ => exact ⟨h, rfl⟩
  have hcell : ftV F 0 [h] = [.int .i64 3, .bool true, .int .i64 5, .slice (some ⟨h, 0, none⟩) 2 2] := by
    show ftC F 0 h ++ [] = _
    rw [HC.out h]
    rfl
  have hb2' := Below.mono (show Below w1.heap.size w1 w2 from hb2) HB1.out.size
  have HB2 := Lib.hid (HB1.out.trans hb2')
  obtain ⟨fs, f1, f2, f3⟩ := ftV_fents F [h] 0
  have hfs : ∃ f, fs = [f] ∧ f.ty = 3 ∧ f.ex = true := by
    match fs, f1, f3 with
    | [f], _, f3 =>
      have := f3 0 f rfl
      rw [Nat.zero_add, HFT.out, HFL.out] at this
      exact ⟨f, rfl, this⟩
  obtain ⟨f, rfl, hty, hex⟩ := hfs
  have hfe : Has w2 (some ⟨g, 0, none⟩) (fents [f]) := by rw [← f2]; exact has_of_owns hrow
  have hgl : g < w2.heap.size := (hrow.lt _ rfl).2
  have HX3 := Lib.hid (fun W (hW : Below w2.heap.size w2 W) => (excl_any g 1 1 [f] 3 W (hfe.below hW) rfl (by decide) (by have := hW.size; omega)).mono (R' := fun e w' => e = .returned (.bool true) ∧ Below W.heap.size W w') (by
    rintro e w' ⟨he, hb'⟩
    exact ⟨by rw [he]; simp [hitF, hty, hex], hb'⟩))
  have HX4 := Lib.hid (fun W (hW : Below w2.heap.size w2 W) => (excl_any g 1 1 [f] 4 W (hfe.below hW) rfl (by decide) (by have := hW.size; omega)).mono (R' := fun e w' => e = .returned (.bool false) ∧ Below W.heap.size W w') (by
    rintro e w' ⟨he, hb'⟩
    exact ⟨by rw [he]; simp [hitF, hty], hb'⟩))
  rw [hcell] at hrow
  have q0 := own_at hrow (j := 0) rfl
  have q1 := own_at hrow (j := 1) rfl
  have q2 := own_at hrow (j := 2) rfl
  have q3 := own_at hrow (j := 3) rfl
  clear hm hb2 hlen hrow hcell hb2' f1 f2 f3 hty hex hfe HR HC HFT HFL HN HOK
  go_wp2_with (first | (go_at_call 26; (with_reducible refine (HX3.out _ (by exact blw)).mono ?_); rintro e w3 ⟨rfl, hb3⟩; have h3c := bc hb3; have h3f := bf hb3; have h3z := hb3.size; try simp only [World.size_alloc, World.size_drew] at h3z) | (go_at_call 26; (with_reducible refine (HX4.out _ (by exact blw)).mono ?_); rintro e w4 ⟨rfl, hb4⟩; have h4c := bc hb4; have h4f := bf hb4; have h4z := hb4.size; try simp only [World.size_alloc, World.size_drew] at h4z))
  go_ret
  exact ⟨rfl, HB2.out.trans (Below.mono (show Below w2.heap.size w2 _ from by exact blw) HB2.out.size)⟩
end Go.Proofs.Ytfnghinefbmlmaa
