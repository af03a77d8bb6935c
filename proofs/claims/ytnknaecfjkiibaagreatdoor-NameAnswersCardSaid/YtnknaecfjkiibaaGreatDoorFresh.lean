/-
  The contract of package name's function Fresh: of a name, the name itself or the first one of its numbered fellows that isn't among the taken; an empty text of no name.
  Conditions: as in the contracts of Right ('Gl'); at most 2000 taken texts.
-/
import Derived.Test.YtnknaecfjkiibaaGreatDoorJoin
import Derived.Test.YtnknaecfjkiibaaGreatDoorNum
import Derived.Maps.OwnSet
namespace Go.Proofs.YtnknaecfjkiibaaGreatDoor
open Go.RowKit Go.Maps

theorem keyLaw : Keyed Tryz.prog 9 := string_keyed Tryz.underlying9
theorem zeroUnit (w : World) : (zeroValue 43).run Tryz.prog w = .ok (.agg #[]) w := by kernel_rfl
/-- The set of the taken texts. -/
def keysOf (xs : List ByteArray) : List Lit := xs.map fun x => .string x.data.toList
def setD (xs : List ByteArray) : DataW Unit := setOf (.agg []) (keysOf xs)
theorem keys_are (xs : List ByteArray) : ∀ x ∈ keysOf xs, WideAt.IsKeyLit x := by
  intro x hx
  obtain ⟨y, _, rfl⟩ := List.mem_map.1 hx
  trivial
/-- The taken texts as lists of bytes. -/
def takenL (xs : List ByteArray) : List (List UInt8) := xs.map (·.data.toList)
theorem has_setD (xs : List ByteArray) (s : ByteArray) : Maps.has (setD xs) (.string s.data.toList) = decide (s.data.toList ∈ takenL xs) := by
  unfold setD
  rw [has_setOf _ _ _ (keys_are xs)]
  unfold keysOf takenL
  rw [List.any_map, Bool.eq_iff_iff, List.any_eq_true, decide_eq_true_iff, List.mem_map]
  constructor
  · rintro ⟨x, hx, h⟩
    exact ⟨x, hx, by simpa [Lit.sameKey] using h⟩
  · rintro ⟨x, hx, h⟩
    exact ⟨x, hx, by simpa [Lit.sameKey] using h⟩
theorem setD_snoc (xs : List ByteArray) (k : Nat) (h : k < xs.length) : setD (xs.take (k + 1)) = (setD (xs.take k)).put (.string xs[k].data.toList) (.agg []) := by
  unfold setD keysOf
  rw [List.take_add_one, List.getElem?_eq_getElem h, List.map_append]
  exact setOf_snoc _ _ _

set_option maxHeartbeats 400000 in
theorem isTaken_is (s : ByteArray) (bx bm n : Nat) (xs : List ByteArray) (w : World) (hs : s.size ≤ 140737488355328) (hc : w.cell? ⟨bx, 0, none⟩ = some (.map (some bm))) (hm : w.ownsMap Tryz.prog 9 unitElem bm n (setD xs)) (b : Bool) (hb : decide (s.data.toList ∈ takenL xs) = b) :
    Calls Tryz.prog 32 #[.string s, .pointer (some ⟨bx, 0, none⟩)] w (Ret w (.bool b)) := by
  have hkey : keyOf Tryz.prog 9 (.string s) = some (.string s.data.toList) := WideMaps.keyOf_string_mk Tryz.underlying9 (by unfold maxLen; omega)
  have HH := Lib.hid ((has_setD xs s).trans hb)
  clear hb
  go_enter Tryz.func32, Tryz.ntmps32
  go_wp2_with (at_lookup; refine wpList_lookup_own_unit _ rfl _ _ 42 rfl 9 43 keyLaw Tryz.underlying42 (zeroUnit _) bm n _ rfl hm _ _ rfl hkey ?_)
  go_ret
  exact ⟨by rw [← HH.out]; rfl, (Below.refl _ _).alloc (Nat.le_refl _) _⟩

theorem itoa_is (n : Nat) (w : World) (g : Gl w) (hn : n < 10000) (E : ByteArray) (hE : ⟨(Lib.decDigits n).toArray⟩ = E) :
    Calls Tryz.prog 48 #[.int .i64 n] w fun e w' => e = .returned (.string E) ∧ Below w.heap.size w w' := by
  subst hE
  refine (Tryz.strconv_Itoa n (by omega) (by omega) w g.tab).mono fun e w' ⟨he, k, os, hw⟩ => ⟨?_, ?_⟩
  · rw [he]
    unfold Lib.itoa
    rw [if_neg (by omega), Int.toNat_natCast]
  · rw [hw]; exact below_grown w k os
theorem trim_is (s : ByteArray) (w : World) (hs : s.size ≤ 140737488355328) (R : ByteArray) (hR : ⟨(Lib.trimRightB s.data.toList 46).toArray⟩ = R) :
    Calls Tryz.prog 49 #[.string s, .string ⟨#[46]⟩] w fun e w' => e = .returned (.string R) ∧ w = w' := by
  subst hR
  exact (Tryz.strings_TrimRight_one s 46 (by decide) w (by omega)).mono fun e w' ⟨he, hw⟩ => ⟨he, hw.symm⟩

/-- A name's n-th fellow (the name itself, then those with a number). -/
def nameKB (s : ByteArray) (n : Nat) : ByteArray := ⟨(Nm.nameK s.data.toList n).toArray⟩
theorem nameKB_data (s : ByteArray) (n : Nat) : (nameKB s n).data.toList = Nm.nameK s.data.toList n := rfl
theorem nameKB_zero (s : ByteArray) : nameKB s 0 = s := by unfold nameKB Nm.nameK; exact Lib.mk_data s
theorem digE_size (n : Nat) : (⟨(Lib.decDigits n).toArray⟩ : ByteArray).size = (Lib.decDigits n).length := Lib.size_mk _
theorem cat_eq {a b : ByteArray} {l : List UInt8} (h : a.data.toList ++ b.data.toList = l) : a ++ b = ⟨l.toArray⟩ := by
  rw [← h]
  apply bytes_inj
  rw [ByteArray.toList_eq, ByteArray.toList_eq]
  simp [ByteArray.data_append]
theorem nameK_succ (s : List UInt8) (n : Nat) : Nm.nameK s (n + 1) = Nm.front s (39 - (Lib.decDigits (n + 1)).length) ++ 95 :: Lib.decDigits (n + 1) := by
  show Nm.front s (40 - (Nm.numE (n + 1)).length) ++ Nm.numE (n + 1) = _
  unfold Nm.numE
  rw [List.length_cons, show 40 - ((Lib.decDigits (n + 1)).length + 1) = 39 - (Lib.decDigits (n + 1)).length from by omega]
theorem front_short {l : List UInt8} {r : Nat} (h : l.length ≤ r) : Nm.front l r = l := by unfold Nm.front; rw [if_neg (by omega)]
theorem front_long {l : List UInt8} {r : Nat} (h : ¬ l.length ≤ r) : Nm.front l r = Lib.trimRightB (l.take r) 46 := by unfold Nm.front; rw [if_pos (by omega)]
theorem num_short {s E : ByteArray} {n : Nat} (hn : n ≠ 0) (hE : ⟨(Lib.decDigits n).toArray⟩ = E) (h : s.size ≤ 39 - E.size) : s ++ (⟨#[95]⟩ ++ E : ByteArray) = nameKB s n := by
  subst hE
  cases n with
  | zero => exact absurd rfl hn
  | succ n =>
    unfold nameKB
    refine cat_eq ?_
    rw [digE_size, Lib.size_eq] at h
    rw [nameK_succ, front_short h]
    simp [ByteArray.data_append]
theorem num_long {s E R : ByteArray} {n : Nat} (hn : n ≠ 0) (hE : ⟨(Lib.decDigits n).toArray⟩ = E) (h : ¬ s.size ≤ 39 - E.size) (hR : ⟨(Lib.trimRightB (s.extract 0 (39 - E.size)).data.toList 46).toArray⟩ = R) : R ++ (⟨#[95]⟩ ++ E : ByteArray) = nameKB s n := by
  subst hE
  cases n with
  | zero => exact absurd rfl hn
  | succ n =>
    unfold nameKB
    refine cat_eq ?_
    rw [← hR, digE_size, Lib.extract_from_zero]
    rw [digE_size, Lib.size_eq] at h
    rw [nameK_succ, front_long h]
    simp [ByteArray.data_append]

theorem extract_small (s : ByteArray) (k : Nat) (hs : s.size ≤ 140737488355328) : (s.extract 0 k).size ≤ 140737488355328 := by
  rw [Lib.size_eq, Lib.extract_from_zero, List.length_take]
  rw [Lib.size_eq] at hs
  omega

theorem trim_size (s : ByteArray) : (⟨(Lib.trimRightB s.data.toList 46).toArray⟩ : ByteArray).size ≤ s.size := by
  obtain ⟨r, h, _⟩ := Nm.trim_spec s.data.toList
  have := congrArg List.length h
  rw [List.length_append] at this
  rw [Lib.size_mk, Lib.size_eq]
  omega

set_option maxHeartbeats 400000 in
theorem numbered_is (s : ByteArray) (n : Nat) (w : World) (g : Gl w) (hs : s.size ≤ 140737488355328) (hn : n < 10000) (h1 : 1 ≤ n) (N : ByteArray) (hN : nameKB s n = N) :
    Calls Tryz.prog 33 #[.string s, .int .i64 n] w (Ret w (.string N)) := by
  obtain ⟨E, hE⟩ : ∃ E : ByteArray, ⟨(Lib.decDigits n).toArray⟩ = E := ⟨_, rfl⟩
  have hE4 : E.size ≤ 4 := by rw [← hE, digE_size]; exact Nm.digits_le hn
  have HE := Lib.hid hE
  have G := Lib.hid g
  clear g
  by_cases h : s.size ≤ 39 - E.size
  · have HF := Lib.hid ((num_short (by omega) hE h).trans hN)
    clear hE hN
    go_enter Tryz.func33, Tryz.ntmps33
    go_wp2_with (go_at_call 48; refine (itoa_is n _ G.out hn E HE.out).mono ?_; rintro e w1 ⟨rfl, hb⟩)
    go_ret
    exact ret_string HF.out hb
  · obtain ⟨R, hR⟩ : ∃ R : ByteArray, ⟨(Lib.trimRightB (s.extract 0 (39 - E.size)).data.toList 46).toArray⟩ = R := ⟨_, rfl⟩
    have HF := Lib.hid ((num_long (by omega) hE h hR).trans hN)
    have hR39 : R.size ≤ 39 := by
      have h2 := trim_size (s.extract 0 (39 - E.size))
      rw [hR, Lib.size_eq (s.extract _ _), Lib.extract_from_zero, List.length_take] at h2
      omega
    have HR := Lib.hid hR
    clear hE hN hR
    go_enter Tryz.func33, Tryz.ntmps33
    go_wp2_with fail
    refine (itoa_is n _ G.out hn E HE.out).mono ?_
    rintro e w1 ⟨rfl, hb⟩
    go_wp2_with fail
    rw [show 40 - (1 + E.size) = 39 - E.size from by omega]
    refine (trim_is _ _ (extract_small s _ hs) R HR.out).mono ?_
    rintro e w2 ⟨rfl, rfl⟩
    go_wp2_with fail
    go_ret
    exact ret_string HF.out hb

/-- What Fresh answers of a name: the first of its fellows that isn't taken. -/
def FreshRes (w : World) (s : ByteArray) (xs : List ByteArray) (e : Ending) (w' : World) : Prop :=
  (∃ j, e = .returned (.string (nameKB s j)) ∧ j ≤ xs.length + 1 ∧ Nm.nameK s.data.toList j ∉ takenL xs ∧ ∀ i, i < j → Nm.nameK s.data.toList i ∈ takenL xs) ∧ Below w.heap.size w w'
theorem run_make_set (P : Program) (t k e : TypeId) (ht : P.underlying t = some (.map k e)) (kd : IntKind) (n : Int) (w : World) :
    (Instr.makeMap t (some (.int kd n))).run P w = .ok (.map (some w.heap.size)) (w.alloc (.map #[] 0)) := by
  simp [Instr.makeMap, run_underlying ht]; rfl

theorem nameKB_right {s : ByteArray} (h : Nm.rightB s = true) {j : Nat} (hj : j < 10000) : Nm.rightB (nameKB s j) = true := by
  unfold Nm.rightB at h ⊢
  rw [Bool.and_eq_true, decide_eq_true_iff] at h
  rw [Lib.size_eq, nameKB_data, Bool.and_eq_true, decide_eq_true_iff]
  cases j with
  | zero => exact ⟨by show s.data.toList.length ≤ 40; rw [← Lib.size_eq]; exact h.1, h.2⟩
  | succ j => exact (Nm.numL_ok h.2 hj).symm
theorem nameKB_size {s : ByteArray} (h : Nm.rightB s = true) {j : Nat} (hj : j < 10000) : (nameKB s j).size ≤ 40 := by
  have := nameKB_right h hj
  unfold Nm.rightB at this
  rw [Bool.and_eq_true, decide_eq_true_iff] at this
  exact this.1
theorem below_map {P : Program} {k : TypeId} {b n : Nat} {D : DataW Unit} {R : Value → Option (DataW Unit × List MemPlace)} {w w' : World} (h : w.ownsMap P k R b n D) (hb : Below w.heap.size w w') : w'.ownsMap P k R b n D := by
  have hlt := h.lt
  obtain ⟨es, clock, hh, r⟩ := h
  exact ⟨es, clock, (hb.block b hlt).trans hh, r⟩

set_option maxHeartbeats 1000000 in
theorem fresh_name (s : ByteArray) (A : Option Addr) (n c : Nat) (xs : List ByteArray) (w : World) (g : Gl w) (hr : Nm.rightB s = true) (hx : Txt w A xs) (hN : xs.length = n) (hn : n ≤ 2000) (hs : ∀ x ∈ xs, x.size ≤ 140737488355328) :
    Calls Tryz.prog 20 #[.string s, .slice A n c] w (FreshRes w s xs) := by
  have h40 : s.size ≤ 40 := by unfold Nm.rightB at hr; simp at hr; exact hr.1
  have G := Lib.hid g
  have HR := Lib.hid hr
  have HX := Lib.hid hx
  have HN := Lib.hid hN
  have HS := Lib.hid hs
  clear g hr hx hN hs
  have hmk := run_make_set Tryz.prog 42 9 43 Tryz.underlying42
  go_enter Tryz.func20, Tryz.ntmps20
  go_wp2_with (go_at_call 9; refine (right_is s _ G.out (by omega) _ HR.out).mono ?_; rintro e w1 ⟨rfl, hb⟩)
  obtain ⟨W, hW⟩ : ∃ W : World, W = (w1.alloc (Obj.map #[] 0)).alloc (Obj.cells #[Value.map (some w1.heap.size)] 42) := ⟨_, rfl⟩
  rw [← hW]
  have HO : Hid (W.ownsMap Tryz.prog 9 (unitElem (H := Unit)) w1.heap.size 0 (setD [])) := by
    subst hW; exact (World.ownsMap_made w1 Tryz.prog 9 unitElem).alloc _
  have HC : Hid (W.cell? ⟨w1.heap.size + 1, 0, none⟩ = some (.map (some w1.heap.size))) := by
    subst hW
    have := cell_of_row _ (w1.alloc (Obj.map #[] 0)).heap.size 0 #[Value.map (some w1.heap.size)] 42 (0, 0) (heap_alloc_new (w1.alloc (Obj.map #[] 0)) (Obj.cells #[Value.map (some w1.heap.size)] 42))
    rw [show (w1.alloc (Obj.map #[] 0)).heap.size = w1.heap.size + 1 from by simp] at this
    exact this
  have hBW : Below w.heap.size w W := by subst hW; exact (hb.alloc hb.size _).alloc (by simp; have := hb.size; omega) _
  have hwB : w.heap.size ≤ w1.heap.size := hb.size
  have hZ : w1.heap.size + 2 ≤ W.heap.size := by subst hW; simp
  have HG := Lib.hid (G.out.below hBW)
  clear hW
  generalize w1.heap.size = B at *
  clear hb
  go_loopw [19] (fun i wr => ∃ k : Nat, k ≤ n ∧ i = .int .i64 k ∧ wr.ownsMap Tryz.prog 9 (unitElem (H := Unit)) B k (setD (xs.take k)) ∧ Hid (wr.cell? ⟨B + 1, 0, none⟩ = some (.map (some B))) ∧ Below B W wr ∧ B + 2 ≤ wr.heap.size) (fun i _ => n - (intOf i).toNat)
  case atStart => exact ⟨0, Nat.zero_le _, rfl, HO.out, HC.out, Below.refl _ _, hZ⟩
  case round =>
    obtain ⟨k, hk, rfl, hown, hcx, hbr, hsz⟩ := hrel
    by_cases hlt : k < n
    · have hx1 : k < xs.length := by rw [HN.out]; exact hlt
      obtain ⟨b, o, rfl, hcell⟩ := (HX.out.below (hBW.trans (hbr.mono hwB))).at_ hx1
      have hxs : xs[k].size ≤ 140737488355328 := HS.out _ (List.getElem_mem hx1)
      have hkey : keyOf Tryz.prog 9 (.string xs[k]) = some (.string xs[k].data.toList) := WideMaps.keyOf_string_mk Tryz.underlying9 (by unfold maxLen; omega)
      have HD := Lib.hid (setD_snoc xs k hx1)
      have hln : (k : Int) < (n : Int) := by omega
      have hcb := hcx.out
      generalize xs[k] = x at *
      go_wp2_with (at_mapUpdate; refine wpList_mapUpdate_own _ rfl _ _ _ 42 rfl 9 43 keyLaw Tryz.underlying42 (unitElem (H := Unit)) B k _ rfl hown (by unfold maxLen; omega) _ _ _ rfl rfl hkey _ [] unitElem_mk ?_; intro w2 hown2 hgrow2)
      go_roundw
      case rel =>
        refine ⟨k + 1, by omega, by go_num, by rw [HD.out]; exact hown2, ?_, hbr.grown hgrow2 (by omega) (fun j hj => by cases hj; exact Nat.le_refl _), by have := hgrow2.size; omega⟩
        exact (World.cell?_of_block (hgrow2.block (B + 1) (by omega) (by simp))).trans hcb
      case measure => simp [intOf]; omega
    · obtain rfl : k = n := by omega
      have hown' : wr.ownsMap Tryz.prog 9 (unitElem (H := Unit)) B k (setD xs) := by
        have e : xs.take k = xs := by rw [← HN.out, List.take_length]
        rwa [e] at hown
      clear hown
      obtain ⟨K, hK1, hK2, hK3⟩ := Nm.free_num s.data.toList (takenL xs)
      have hKn : K ≤ k + 1 := by unfold takenL at hK2; rw [List.length_map, HN.out] at hK2; exact hK2
      have HKf := Lib.hid hK3
      have h0 := Lib.hid (nameKB_zero s)
      clear hK2 hK3
      have hK10 : K < 10000 := by omega
      have HRT : Hid (∀ j, j < 10000 → (nameKB s j).size ≤ 40) := fun j hj => nameKB_size HR.out hj
      go_wp2
      obtain ⟨W2, rfl⟩ : ∃ W2 : World, W2 = wr := ⟨_, rfl⟩
      have HOW := Lib.hid hown'
      have HCX := Lib.hid hcx.out
      clear hown' hcx
      go_loopw [9, 10] (fun f i wr => ∃ j : Nat, j ≤ K ∧ f = .string (nameKB s j) ∧ i = .int .i64 (j + 1 : Nat) ∧ Hid (∀ i, i < j → Nm.nameK s.data.toList i ∈ takenL xs) ∧ Below W2.heap.size W2 wr) (fun _ i _ => K + 1 - (intOf i).toNat)
      case atStart => exact ⟨0, Nat.zero_le _, by rw [h0.out], rfl, fun i hi => absurd hi (Nat.not_lt_zero _), Below.refl _ _⟩
      case round =>
        obtain ⟨j, hj, rfl, rfl, hall, hb2⟩ := hrel
        have hF40 := HRT.out j (by omega)
        have hGr := Lib.hid ((HG.out.low hbr ⟨Nat.lt_of_lt_of_le G.out.lt.1 hwB, Nat.lt_of_lt_of_le G.out.lt.2 hwB⟩).below hb2)
        have HM := Lib.hid (below_map HOW.out hb2)
        have HB := Lib.hid ((hb2.cell (p := ⟨B + 1, 0, none⟩) (by simp; omega)).trans HCX.out)
        obtain ⟨F, hF⟩ : ∃ F, nameKB s j = F := ⟨_, rfl⟩
        rw [hF]
        rw [hF] at hF40
        have HF := Lib.hid hF
        have hd : F.data.toList = Nm.nameK s.data.toList j := by rw [← hF]; rfl
        clear hF
        by_cases hm : Nm.nameK s.data.toList j ∈ takenL xs
        · have HT := Lib.hid (decide_eq_true (p := F.data.toList ∈ takenL xs) (by rw [hd]; exact hm))
          have hjK : j ≠ K := fun e => HKf.out (by rw [← e]; exact hm)
          have HA : Hid (∀ i, i < j + 1 → Nm.nameK s.data.toList i ∈ takenL xs) := fun i hi => by
            by_cases e : i = j
            · subst e; exact hm
            · exact hall.out i (by omega)
          clear hm hd
          go_wp2_with fail
          refine (isTaken_is F (B + 1) B k xs _ (by omega) HB.out HM.out true HT.out).mono ?_
          rintro e w3 ⟨rfl, hb3⟩
          have hGs := Lib.hid (hGr.out.below hb3)
          go_wp2_with fail
          refine (numbered_is s (j + 1) _ hGs.out (by omega) (by omega) (by omega) _ rfl).mono ?_
          rintro e w4 ⟨rfl, hb4⟩
          go_wp2_with fail
          go_roundw
          case rel => exact ⟨j + 1, by omega, rfl, by go_num, HA, hb2.trans ((hb3.trans (hb4.mono hb3.size)).mono hb2.size)⟩
          case measure => simp [intOf]; omega
        · have HT := Lib.hid (decide_eq_false (p := F.data.toList ∈ takenL xs) (by rw [hd]; exact hm))
          have HNM := Lib.hid hm
          clear hm hd
          go_wp2_with fail
          refine (isTaken_is F (B + 1) B k xs _ (by omega) HB.out HM.out false HT.out).mono ?_
          rintro e w3 ⟨rfl, hb3⟩
          go_wp2_with fail
          go_ret
          exact ⟨⟨j, by rw [HF.out]; rfl, by rw [HN.out]; omega, HNM.out, hall.out⟩, hBW.trans ((hbr.trans ((hb2.trans (hb3.mono hb2.size)).mono (by omega))).mono hwB)⟩
end Go.Proofs.YtnknaecfjkiibaaGreatDoor
