import PyProof.Rows.All
import Wide.All
import OpenK.AllK
import Wide.FinOn
import HandS.ForMost
import HandS.ForExc
import HandS.Wide
import HandS.Style
import HandS.Conv
import HandS.IsInst
import PySem.Challenge.RW_lateslips_k41_whole_mended_states
import KE.GoesMore
import PyProof.Draws
import HandS.WideBits
import PyProof.InstEq
import HandS.OwnEq
import HandS.Zip
import HandS.MakeKwOnly
import PyProof.ReprRoads
import PyProof.ReprLen
import HandS.RaiseMore
import HandS.TupAny
import HandS.SetBool
import HandS.Strs
import PyProof.FactsAll.dict_1
import PyProof.FactsAll.subtypes_4
import HandS.CallSlots
set_option Elab.async false
set_option maxRecDepth 100000
namespace Lk
open PySem L2
def top (i : Nat) : Stmt := PySem.Challenge.pw_lateslips_k41_whole_mended_states.main.body.getD i (.Pass ⟨0, 0, 0, 0⟩)

/-! ### heaps: all but the deal stands -/
/-- what H tells stands in H', the two objects of the deal aside -/
def SB (d l : Addr) (H H' : Hp) : Prop := ∀ a o, H a = some o → a ≠ d → a ≠ l → H' a = some o
theorem SB.refl (d l : Addr) (H : Hp) : SB d l H H := fun _ _ h _ _ => h
theorem SB.trans {d l : Addr} {H H1 H2 : Hp} (x : SB d l H H1) (y : SB d l H1 H2) : SB d l H H2 := fun a o h n m => y a o (x a o h n m) n m
theorem SB.new {d l p : Addr} {H : Hp} {o : HO} (h : H p = none) : SB d l H (upd H p o) := fun a u e _ _ => by
  rw [upd_ne (ne_of_none e h)]
  exact e
theorem SB.d {d l : Addr} {H : Hp} {o : HO} : SB d l H (upd H d o) := fun a u e n _ => by
  rw [upd_ne n]
  exact e
theorem SB.l {d l : Addr} {H : Hp} {o : HO} : SB d l H (upd H l o) := fun a u e _ n => by
  rw [upd_ne n]
  exact e
/-- the deal: at d the pair of the great cells left, at l, and the blend -/
structure DealIs (H : Hp) (d l : Addr) (bs : List Int) (b : Int) : Prop where
  hd : H d = some (.lst [.ref l, .int b])
  hl : H l = some (.lst (bs.map V.int))
  pos : ∀ x ∈ bs, 0 ≤ x
  len : bs.length ≤ 48
  b0 : 0 ≤ b
  b1 : b < 2147483647
def DealAt (H : Hp) (d l : Addr) : Prop := ∃ bs b, DealIs H d l bs b
theorem DealIs.ne {H : Hp} {d l : Addr} {bs : List Int} {b : Int} (x : DealIs H d l bs b) : d ≠ l := fun e => by
  have h1 := x.hd
  have h2 := x.hl
  rw [e, h2] at h1
  have h3 := Option.some.inj h1
  injection h3 with h4
  cases bs with
  | nil => cases h4
  | cons y ys =>
    injection h4 with h5
    cases h5
theorem DealIs.new {H : Hp} {d l p : Addr} {o : HO} {bs : List Int} {b : Int} (x : DealIs H d l bs b) (h : H p = none) : DealIs (upd H p o) d l bs b :=
  ⟨by rw [upd_ne (ne_of_none x.hd h)]; exact x.hd, by rw [upd_ne (ne_of_none x.hl h)]; exact x.hl, x.pos, x.len, x.b0, x.b1⟩
theorem DealAt.new {H : Hp} {d l p : Addr} {o : HO} (x : DealAt H d l) (h : H p = none) : DealAt (upd H p o) d l := by
  obtain ⟨bs, b, y⟩ := x
  exact ⟨bs, b, y.new h⟩

/-! ### data: ints in a list -/
theorem dpAll_ints {K : PySem.W.Frag} {H : Hp} : ∀ bs : List Int, DpAll K H (bs.map V.int) (bs.map PyData.int)
  | [] => .nil
  | _ :: bs => .cons (.int _) (dpAll_ints bs)
theorem canLay_ints : ∀ bs : List Int, PyData.canLayAll0 (bs.map PyData.int) = true
  | [] => rfl
  | _ :: bs => by
    show (true && PyData.canLayAll0 (bs.map PyData.int)) = true
    rw [canLay_ints bs] <;> rfl
theorem depth_ints : ∀ bs : List Int, PyData.depthAll (bs.map PyData.int) ≤ 1
  | [] => by decide
  | z :: bs => by
    have h := depth_ints bs
    show max (PyData.depth (.int z)) (PyData.depthAll (bs.map PyData.int)) ≤ 1
    have e : PyData.depth (.int z) = 0 := rfl
    omega
theorem shaped_ints (bs : List Int) : SeqAt.shaped (.list (bs.map PyData.int)) = true := by
  have h1 : PyData.canLay0 (.list (bs.map PyData.int)) = true := canLay_ints bs
  have h2 : PyData.depth (.list (bs.map PyData.int)) = PyData.depthAll (bs.map PyData.int) + 1 := rfl
  have h3 := depth_ints bs
  unfold SeqAt.shaped
  rw [h1, Bool.true_and]
  exact decide_eq_true (by omega)
theorem eqv_nil (ds : List PyData) : PyData.eqv (.list ds) (.list []) = ds.isEmpty := by
  cases ds <;> rfl

/-! ### the facts of the top that the defs lean on -/
/-- a def of the text, at f -/
structure Df (K : PySem.W.Frag) (mg : Str → Option Value) (x : Str) (st : Stmt) (f : Addr) (fd : FuncData) (ps : List Str) : Prop where
  F : Fun K x x st f fd
  g : mg x = some (.ref f)
  b : Binds K fd ps []
structure Txt (mg : Str → Option Value) : Prop where
  len : mg "len" = none
  abs : mg "abs" = none
  int : mg "int" = none
  max : mg "max" = none
  min : mg "min" = none
  range : mg "range" = none
  list : mg "list" = none
  tuple : mg "tuple" = none
  enumerate : mg "enumerate" = none
  zip : mg "zip" = none
  isinstance : mg "isinstance" = none
  all : mg "all" = none
  bool : mg "bool" = none
  repr : mg "repr" = none
end Lk

set_option Elab.async false
set_option maxRecDepth 100000
set_option maxHeartbeats 1000000
namespace Lk
open PySem L2
abbrev s_law_any : Stmt := top 29
abbrev N_law_any : List Str := ["deal", "bound", "rest"]
abbrev P_law_any : List Str := ["deal", "bound"]
theorem sc_law_any : FnScope N_law_any P_law_any (defScope s_law_any) := ⟨rfl, rfl, rfl, by decide +kernel, rfl, by decide +kernel, by decide +kernel⟩
/-- a number below n is drawn, the deal goes on -/
def spAny : Sp := fun vs H Q _ => ∃ (d l : Addr) (n : Int), vs = [.ref d, .int n] ∧ 0 < n ∧ n < 1073741824 ∧ DealAt H d l ∧
  ∀ (H' : Hp) (r : Int), DealAt H' d l → SB d l H H' → 0 ≤ r → r < n → Q (.int r) H'
section
variable {P : Program} {w : World} {K : PySem.W.Frag} {mg : Str → Option Value} {base : Heap}
theorem last_get {bs : List Int} (h : bs ≠ []) : (bs.map V.int)[(bs.map V.int).length - 1]? = some (V.int (bs.getLast h)) := by
  rw [List.length_map, List.getElem?_map]
  have e : bs[bs.length - 1]? = some (bs.getLast h) := by
    rw [List.getLast_eq_getElem]
    exact List.getElem?_eq_getElem _
  rw [e] <;> rfl
theorem atI_last {bs : List Int} (h : bs ≠ []) : atI (bs.map V.int) (-1) = some (V.int (bs.getLast h)) := by
  have hl : 0 < bs.length := List.length_pos_iff.mpr h
  have e : ixN (bs.map V.int).length (-1) = some ((bs.map V.int).length - 1) := by
    unfold ixN
    rw [if_neg (by decide), if_pos (by rw [List.length_map]; omega)]
    have q : ((-1 : Int) + ((bs.map V.int).length : Int)).toNat = (bs.map V.int).length - 1 := by
      rw [List.length_map]
      omega
    rw [q]
  unfold atI
  rw [e]
  exact last_get h
theorem ok_any {f : Addr} {fd : FuncData} (A0 : Df K mg "_law_any" s_law_any f fd P_law_any) (T : Txt mg) : FnOk P w K mg base CX0 1 f fd P_law_any spAny := by
  refine A0.F.ok sc_law_any (fun vs H Q E h => ?_) (fun cdv A outer s H vs Q E hr h => ?_)
  · obtain ⟨d, l, n, rfl, _⟩ := h
    rfl
  · obtain ⟨d, l, n, rfl, n0, n1, D, k⟩ := h
    have hu : A.units + 3 + 64 < cLine := by have := hr.un; simp only [Around.deeper] at this; omega
    refine ⟨_, (pss_cons (ps_while PassesOwn.never (PW.pt (pw_and (pt_cmpR (op_neD hu) (pe_ix ix_list (pv 0) pe_int (fun _ _ => rfl)) (pe_lst pa_nil) (nomark _)) (pw_and1 (pt_cmpR op_eq (pe_ix ix_list (pe_ix ix_list (pv 0) pe_int (fun _ _ => rfl)) (pe_un un_neg pe_int) (fun _ _ => rfl)) pe_int (nomark _)))))
      (pss_one (ps_expr (pe_bm0 PySem.F.plainAttrs_list PySem.F.slot_list_pop PySem.F.type_list_pop mt_pop (pe_ix ix_list (pv 0) pe_int (fun _ _ => rfl))))))
    (pss_cons (ps_if (pt_cmpR (op_neD hu) (pe_ix ix_list (pv 0) pe_int (fun _ _ => rfl)) (pe_lst pa_nil) (nomark _)) (pss_cons (ps_set (i := 2) sc_law_any.nd rfl (Or.inl rfl) (pe_callTy call_int1 (by rfl) T.int (by decide +kernel) (pa_cons (pe_bm0 PySem.F.plainAttrs_list PySem.F.slot_list_pop PySem.F.type_list_pop mt_pop (pe_ix ix_list (pv 0) pe_int (fun _ _ => rfl))) pa_nil)))
      (pss_cons (ps_expr (pe_bm PySem.F.plainAttrs_list PySem.F.slot_list_append PySem.F.type_list_append mt_append (pe_ix ix_list (pv 0) pe_int (fun _ _ => rfl)) (pa_cons (pe_op op_fdivW (pv 2) (pv 1)) pa_nil)))
      (pss_one (ps_ret (pe_op op_mod (pv 2) (pv 1)))))) pss_nil)
    (pss_cons (ps_asg (pe_op op_mod (pe_callTy call_int1 (by rfl) T.int (by decide +kernel) (pa_cons (pe_op op_add (pe_op op_mul (pe_ix ix_list (pv 0) pe_int (fun _ _ => rfl)) pe_int) pe_int) pa_nil)) pe_int) (pg_sub (pv 0) pe_int set_list))
    (pss_one (ps_ret (pe_op op_mod (pe_callTy call_int1 (by rfl) T.int (by decide +kernel) (pa_cons (pe_op op_fdiv (pe_ix ix_list (pv 0) pe_int (fun _ _ => rfl)) pe_int) pa_nil)) (pv 1))))))), ?_⟩
    obtain ⟨bs0, b0, D0⟩ := D
    refine ⟨fun m σ H1 => σ = [some (.ref d), some (.int n), none] ∧ SB d l H H1 ∧ ∃ bs b, DealIs H1 d l bs b ∧ m = bs.length, ⟨_, rfl, SB.refl _ _ _, bs0, b0, D0, rfl⟩, ?_⟩
    rintro m σ H1 ⟨rfl, S1, bs, b, D1, rfl⟩
    refine ⟨_, rfl, d, _, 0, _, rfl, rfl, SqL.of D1.hd, rfl, Nat.zero_le _, fun p hp => ⟨_, _, Dp.lst (SqL.of (D1.new hp).hl) (dpAll_ints _), Dp.lst (SqL.of upd_same) .nil, shaped_ints _, by decide +kernel, _, rfl, ?_⟩⟩
    have D2 := D1.new (o := HO.lst []) hp
    have S2 : SB d l H _ := S1.trans (SB.new (o := HO.lst []) hp)
    rw [eqv_nil]
    -- behind the loop, with a deal that has great cells left or none
    have after : ∀ (H2 : Hp) (bs : List Int) (b : Int), DealIs H2 d l bs b → SB d l H H2 → (bs = [] ∨ ∃ h : bs ≠ [], bs.getLast h ≠ 0) →
        (tSeq (tIfS (tTest (tOp (rNeD K) (tOp (rIxL K) (tVar 0) (tC (.int 0))) (tLst tNil))) (tSeq (tAsg (tCB (fun xs H Q => (∃ i, xs = [.int i] ∧ Q (.int i) H) ∨ ∃ k, xs = [.bl k] ∧ Q (.int (if k then 1 else 0)) H) (tCons (tBM0 K "list" rPop (tOp (rIxL K) (tVar 0) (tC (.int 0)))) tNil)) (gName 2))
          (tSeq (tDrop (tBM K "list" rAppend (tOp (rIxL K) (tVar 0) (tC (.int 0))) (tCons (tOp (rI CDivW fun i j => .int (i / j)) (tVar 2) (tVar 1)) tNil))) (tRet (tOp (rI (fun _ j => 0 < j) fun i j => .int (i % j)) (tVar 2) (tVar 1))))) tNext)
          (tSeq (tAsg (tOp (rI (fun _ j => 0 < j) fun i j => .int (i % j)) (tCB (fun xs H Q => (∃ i, xs = [.int i] ∧ Q (.int i) H) ∨ ∃ k, xs = [.bl k] ∧ Q (.int (if k then 1 else 0)) H) (tCons (tOp (rI0 fun i j => .int (i + j)) (tOp (rI CMul fun i j => .int (i * j)) (tOp (rIxL K) (tVar 0) (tC (.int 1))) (tC (.int 40693))) (tC (.int 71))) tNil)) (tC (.int 2147483647))) (gSub (tVar 0) (tC (.int 1)) rSetL))
            (tRet (tOp (rI (fun _ j => 0 < j) fun i j => .int (i % j)) (tCB (fun xs H Q => (∃ i, xs = [.int i] ∧ Q (.int i) H) ∨ ∃ k, xs = [.bl k] ∧ Q (.int (if k then 1 else 0)) H) (tCons (tOp (rI CDiv fun i j => .int (i / j)) (tOp (rIxL K) (tVar 0) (tC (.int 1))) (tC (.int 64))) tNil)) (tVar 1)))))
          { nx := fun _ H' => Q .non H', rt := Q } [some (.ref d), some (.int n), none] H2 := by
      intro H2 bs b D1 S1 hb
      refine ⟨_, rfl, d, _, 0, _, rfl, rfl, SqL.of D1.hd, rfl, Nat.zero_le _, fun p hp => ⟨_, _, Dp.lst (SqL.of (D1.new hp).hl) (dpAll_ints _), Dp.lst (SqL.of upd_same) .nil, shaped_ints _, by decide +kernel, _, rfl, ?_⟩⟩
      have D2 := D1.new (o := HO.lst []) hp
      have S2 : SB d l H _ := S1.trans (SB.new (o := HO.lst []) hp)
      rw [eqv_nil]
      cases bs with
      | nil =>
        refine iteF ?_
        have m0 : (0 : Int) ≤ (b * 40693 + 71) % 2147483647 := Int.emod_nonneg _ (by decide)
        have m1 : (b * 40693 + 71) % 2147483647 < 2147483647 := Int.emod_lt_of_pos _ (by decide)
        refine ⟨_, rfl, d, _, 1, _, rfl, rfl, SqL.of D2.hd, rfl, _, _, rfl, rfl, .inr ⟨by decide, by decide⟩, _, _, rfl, rfl, .inl ⟨_, rfl, _, _, rfl, rfl, (by show (0 : Int) < 2147483647; decide), ?_⟩⟩
        refine ⟨_, rfl, d, _, 1, 1, rfl, rfl, D2.hd, rfl, ?_⟩
        refine ⟨_, rfl, d, _, 1, _, rfl, rfl, SqL.of upd_same, rfl, _, _, rfl, rfl, ⟨by decide, by decide⟩, .inl ⟨_, rfl, _, rfl, _, _, rfl, rfl, n0, ?_⟩⟩
        refine k _ _ ⟨[], _, ⟨upd_same, ?_, D2.pos, D2.len, m0, m1⟩⟩ (S2.trans SB.d) (Int.emod_nonneg _ (by omega)) (Int.emod_lt_of_pos _ n0)
        rw [upd_ne D2.ne.symm]
        exact D2.hl
      | cons x xs =>
        refine iteT ?_
        have h0 : (0 : Int) ≤ (x :: xs).getLast (List.cons_ne_nil x xs) := D2.pos _ (List.getLast_mem _)
        refine ⟨_, rfl, d, _, 0, _, rfl, rfl, SqL.of D2.hd, rfl, .inl ⟨rfl, _, SqL.of D2.hl⟩, l, _, _, rfl, rfl, D2.hl, last_get (List.cons_ne_nil x xs), .inl ⟨_, rfl, ?_⟩⟩
        have hd3 : upd (upd H2 p (HO.lst [])) l (HO.lst ((x :: xs).map V.int).dropLast) d = some (.lst [.ref l, .int b]) := by
          rw [upd_ne D2.ne]
          exact D2.hd
        refine ⟨_, rfl, d, _, 0, _, rfl, rfl, SqL.of hd3, rfl, .inl ⟨rfl, _, SqL.of upd_same⟩, _, rfl, _, rfl, _, _, rfl, rfl, wide_div n0 (b := 30) (by omega) (by decide) (by decide), l, _, _, rfl, rfl, upd_same, ?_, ?_⟩
        · have := D2.len
          rw [List.length_dropLast, List.length_map]
          exact Nat.lt_of_le_of_lt (by omega : _ ≤ 48) (by decide)
        · refine ⟨_, rfl, _, rfl, _, _, rfl, rfl, n0, ?_⟩
          refine k _ _ ⟨(x :: xs).dropLast ++ [(x :: xs).getLast (List.cons_ne_nil x xs) / n], b, ⟨?_, ?_, ?_, ?_, D2.b0, D2.b1⟩⟩ ((S2.trans SB.l).trans SB.l) (Int.emod_nonneg _ (by omega)) (Int.emod_lt_of_pos _ n0)
          · rw [upd_ne D2.ne]
            exact hd3
          · rw [upd_same, List.map_append, List.map_dropLast]
            rfl
          · intro y hy
            rcases List.mem_append.mp hy with h | h
            · exact D2.pos y (List.dropLast_subset _ h)
            · rw [List.mem_singleton.mp h]
              exact Int.ediv_nonneg h0 (by omega)
          · have := D2.len
            rw [List.length_append, List.length_dropLast]
            simp only [List.length_cons, List.length_nil] at this ⊢
            omega
    cases bs with
    | nil => exact iteF (after _ [] b D2 S2 (.inl rfl))
    | cons x xs =>
      refine iteT ?_
      refine ⟨_, rfl, d, _, 0, _, rfl, rfl, SqL.of D2.hd, rfl, _, rfl, l, _, -1, _, rfl, rfl, SqL.of D2.hl, atI_last (List.cons_ne_nil x xs), rfl, _, rfl, ?_⟩
      refine ite2 (fun h => ?_) (fun h => ?_)
      · refine ⟨fun σ' H' => ∃ m', m' < (x :: xs).length ∧ (σ' = [some (.ref d), some (.int n), none] ∧ SB d l H H' ∧ ∃ bs b, DealIs H' d l bs b ∧ m' = bs.length), fun _ _ h => h, ?_⟩
        refine ⟨_, rfl, d, _, 0, _, rfl, rfl, SqL.of D2.hd, rfl, .inl ⟨rfl, _, SqL.of D2.hl⟩, l, _, _, rfl, rfl, D2.hl, last_get (List.cons_ne_nil x xs), ?_⟩
        refine ⟨(x :: xs).dropLast.length, by rw [List.length_dropLast]; simp, rfl, S2.trans SB.l, (x :: xs).dropLast, b, ⟨?_, ?_, fun y hy => D2.pos y (List.dropLast_subset _ hy), ?_, D2.b0, D2.b1⟩, rfl⟩
        · rw [upd_ne D2.ne]
          exact D2.hd
        · rw [upd_same, List.map_dropLast]
        · have := D2.len
          rw [List.length_dropLast]
          omega
      · refine after _ (x :: xs) b D2 S2 (.inr ⟨List.cons_ne_nil x xs, fun e => h ?_⟩)
        rw [e]
        rfl
end
end Lk

set_option Elab.async false
set_option maxRecDepth 100000
set_option maxHeartbeats 1000000
namespace Lk
open PySem L2
/-! ### what stands but at some places -/
def KP (S : Addr → Prop) (H H' : Hp) : Prop := ∀ a o, H a = some o → ¬ S a → H' a = some o
def dl (d l : Addr) : Addr → Prop := fun a => a = d ∨ a = l
theorem SB.kp {d l : Addr} {H H' : Hp} (x : SB d l H H') : KP (dl d l) H H' := fun a o h n => x a o h (fun e => n (.inl e)) fun e => n (.inr e)
theorem KP.sb {d l : Addr} {H H' : Hp} (x : KP (dl d l) H H') : SB d l H H' := fun a o h n m => x a o h fun e => e.elim n m
theorem KP.refl (S : Addr → Prop) (H : Hp) : KP S H H := fun _ _ h _ => h
theorem KP.trans {S : Addr → Prop} {H H1 H2 : Hp} (x : KP S H H1) (y : KP S H1 H2) : KP S H H2 := fun a o h n => y a o (x a o h n) n
theorem KP.new {S : Addr → Prop} {H : Hp} {p : Addr} {o : HO} (h : H p = none) : KP S H (upd H p o) := fun a u e _ => by
  rw [upd_ne (ne_of_none e h)]
  exact e
theorem KP.mut {S : Addr → Prop} {H H1 : Hp} {p : Addr} {o : HO} (x : KP S H H1) (h : H p = none) : KP S H (upd H1 p o) := fun a u e n => by
  rw [upd_ne (ne_of_none e h)]
  exact x a u e n
theorem KP.same {S : Addr → Prop} {H H1 : Hp} (x : Same H H1) : KP S H H1 := fun a o h _ => x a o h
theorem KP.free {S : Addr → Prop} {H H1 : Hp} {p : Addr} (x : KP S H H1) (n : ¬ S p) (h : H1 p = none) : H p = none := by
  cases e : H p with
  | none => rfl
  | some o =>
    rw [x p o e n] at h
    cases h
theorem KP.get {S : Addr → Prop} {H H1 : Hp} {p : Addr} {o : HO} (x : KP S H H1) (n : ¬ S p) (h : H p = some o) : H1 p = some o := x p o h n
theorem KP.weak {S S' : Addr → Prop} {H H1 : Hp} (x : KP S H H1) (h : ∀ a, S a → S' a) : KP S' H H1 := fun a o e n => x a o e fun q => n (h a q)
theorem kp_upd {S : Addr → Prop} {H : Hp} {p : Addr} {o : HO} (h : S p) : KP S H (upd H p o) := fun a u e n => by
  rw [upd_ne fun q => n (by rw [q]; exact h)]
  exact e
theorem DealIs.out {H H' : Hp} {d l : Addr} {bs : List Int} {b : Int} (x : DealIs H d l bs b) (h1 : H' d = H d) (h2 : H' l = H l) : DealIs H' d l bs b :=
  ⟨h1.trans x.hd, h2.trans x.hl, x.pos, x.len, x.b0, x.b1⟩
theorem DealAt.out {H H' : Hp} {d l : Addr} (x : DealAt H d l) (h1 : H' d = H d) (h2 : H' l = H l) : DealAt H' d l := by
  obtain ⟨bs, b, y⟩ := x
  exact ⟨bs, b, y.out h1 h2⟩
theorem DealAt.upd {H : Hp} {d l p : Addr} {o : HO} (x : DealAt H d l) (n : ¬ dl d l p) : DealAt (upd H p o) d l :=
  x.out (upd_ne fun e => n (.inl e.symm)) (upd_ne fun e => n (.inr e.symm))
theorem DealAt.free {H : Hp} {d l p : Addr} (x : DealAt H d l) (h : H p = none) : ¬ dl d l p := fun e => by
  obtain ⟨bs, b, y⟩ := x
  rcases e with e | e
  · rw [e, y.hd] at h
    cases h
  · rw [e, y.hl] at h
    cases h

/-! ### comprehensions whose turns may draw -/
theorem wipe1 (σ : St) (j : Nat) (x : Option V) : wipe ((wipe σ [j]).set j x) [j] = wipe σ [j] := by
  show (((σ.set j none).set j x).set j none) = σ.set j none
  rw [List.set_set, List.set_set]
section
variable {K : PySem.W.Frag} {j : Nat} {te : TE} {σ : St} {H1 : Hp} {D : Addr} {Qd : Hp → Prop}
/-- what a comprehension keeps: D holds what is made so far -/
def Lcp (S : Addr → Prop) (I : Hp → Prop) (f : Nat → V → Hp → Prop) (H1 : Hp) (D : Addr) (i : Nat) (H : Hp) : Prop :=
  I H ∧ KP S H1 H ∧ ∃ ys : List V, H D = some (.lst ys) ∧ ys.length = i ∧ ∀ k y, ys[k]? = some y → f k y H
theorem Lcp.step {S : Addr → Prop} {I : Hp → Prop} {f : Nat → V → Hp → Prop} {i : Nat} {H H4 : Hp} {y : V} (hD : H1 D = none) (hS : ¬ S D) (mI : ∀ H o, I H → I (upd H D o)) (mf : ∀ i y H H', KP (fun a => S a ∨ a = D) H H' → f i y H → f i y H')
    (hi : i < 1000000) (x : Lcp S I f H1 D i H) (h1 : I H4) (h2 : KP S H H4) (h3 : f i y H4) : ∃ acc, H4 D = some (.lst acc) ∧ acc.length < sizeLine ∧ Lcp S I f H1 D (i + 1) (upd H4 D (.lst (acc ++ [y]))) := by
  obtain ⟨_, k1, ys, e, hl, hf⟩ := x
  refine ⟨ys, h2.get hS e, by rw [hl]; exact Nat.lt_trans hi (by decide), mI _ _ h1, (k1.trans h2).mut hD, ys ++ [y], upd_same, by rw [List.length_append, hl]; rfl, fun k z hz => ?_⟩
  have m1 : KP (fun a => S a ∨ a = D) H4 (upd H4 D (.lst (ys ++ [y]))) := kp_upd (.inr rfl)
  by_cases hk : k < ys.length
  · rw [List.getElem?_append_left hk] at hz
    exact mf _ _ _ _ ((h2.weak fun a q => .inl q).trans m1) (hf k z hz)
  · rw [List.getElem?_append_right (by omega)] at hz
    have hk0 : k - ys.length = 0 := by
      cases q : k - ys.length with
      | zero => rfl
      | succ m => rw [q] at hz; simp at hz
    rw [hk0] at hz
    have ez : y = z := Option.some.inj hz
    rw [← ez, show k = i by omega]
    exact mf _ _ _ _ m1 h3
theorem Lcp.zero {S : Addr → Prop} {I : Hp → Prop} {f : Nat → V → Hp → Prop} (hD : H1 D = none) (mI : ∀ H o, I H → I (upd H D o)) (h : I H1) : Lcp S I f H1 D 0 (upd H1 D (.lst [])) :=
  ⟨mI _ _ h, KP.new hD, [], upd_same, rfl, fun k y e => by simp at e⟩
theorem lcR {lo : Int} {n : Nat} (S : Addr → Prop) (I : Hp → Prop) (f : Nat → V → Hp → Prop) (hD : H1 D = none) (hS : ¬ S D) (hn : n ≤ 1000000) (hI : I H1) (mI : ∀ H o, I H → I (upd H D o))
    (mf : ∀ i y H H', KP (fun a => S a ∨ a = D) H H' → f i y H → f i y H')
    (hs : ∀ i H acc, i < n → I H → KP S H1 H → H D = some (.lst acc) → ∀ Q : VK, (∀ y H4, I H4 → KP S H H4 → f i y H4 → Q y H4) → te ((wipe σ [j]).set j (some (.int (lo + i)))) H Q)
    (hd : ∀ ys H', ys.length = n → (∀ i y, ys[i]? = some y → f i y H') → H' D = some (.lst ys) → I H' → KP S H1 H' → Qd H') :
    ∃ W : Nat → Nat → Hp → Prop, (∃ m, W 0 m (upd H1 D (.lst []))) ∧ ∀ i m H, W i m H →
      ((Itr lo n).stop i H ∧ Qd H) ∨ ((Itr lo n).go i H ∧ ∃ Nx : Hp → Prop, (∀ H', Nx H' → ∃ m', m' < m ∧ W (i + 1) m' H') ∧ ∀ x H', (Itr lo n).yld i H x H' → gName j x (wipe σ [j]) H' fun σ2 H2 => wipe σ2 [j] = wipe σ [j] ∧ tYes σ2 H2 fun b H3 =>
        if b = true then te σ2 H3 fun y H4 => ∃ acc, H4 D = some (.lst acc) ∧ acc.length < sizeLine ∧ Nx (upd H4 D (.lst (acc ++ [y]))) else Nx H3) := by
  refine lc_range (Lcp S I f H1 D) (Lcp.zero hD mI hI) (fun i H hi x => ?_) (fun H x => ?_)
  · refine ⟨wipe1 _ _ _, iteT (B := Lcp S I f H1 D (i + 1) H) ?_⟩
    obtain ⟨acc, e⟩ : ∃ acc, H D = some (.lst acc) := by
      obtain ⟨_, _, ys, e, _⟩ := x
      exact ⟨ys, e⟩
    exact hs i H acc hi x.1 x.2.1 e _ fun y H4 h1 h2 h3 => x.step hD hS mI mf (by omega) h1 h2 h3
  · obtain ⟨h1, h2, ys, e, hl, hf⟩ := x
    exact hd ys H hl hf e h1 h2
theorem lcL {a : Addr} {xs : List V} (S : Addr → Prop) (I : Hp → Prop) (f : Nat → V → Hp → Prop) (hD : H1 D = none) (hS : ¬ S D) (hn : xs.length ≤ 1000000) (hI : I H1) (mI : ∀ H o, I H → I (upd H D o))
    (mf : ∀ i y H H', KP (fun a => S a ∨ a = D) H H' → f i y H → f i y H') (ha : ∀ H, KP S H1 H → SqL K H a xs)
    (hs : ∀ i x H acc, xs[i]? = some x → I H → KP S H1 H → H D = some (.lst acc) → ∀ Q : VK, (∀ y H4, I H4 → KP S H H4 → f i y H4 → Q y H4) → te ((wipe σ [j]).set j (some x)) H Q)
    (hd : ∀ ys H', ys.length = xs.length → (∀ i y, ys[i]? = some y → f i y H') → H' D = some (.lst ys) → I H' → KP S H1 H' → Qd H') :
    ∃ W : Nat → Nat → Hp → Prop, (∃ m, W 0 m (upd H1 D (.lst []))) ∧ ∀ i m H, W i m H →
      ((Itl K a).stop i H ∧ Qd H) ∨ ((Itl K a).go i H ∧ ∃ Nx : Hp → Prop, (∀ H', Nx H' → ∃ m', m' < m ∧ W (i + 1) m' H') ∧ ∀ x H', (Itl K a).yld i H x H' → gName j x (wipe σ [j]) H' fun σ2 H2 => wipe σ2 [j] = wipe σ [j] ∧ tYes σ2 H2 fun b H3 =>
        if b = true then te σ2 H3 fun y H4 => ∃ acc, H4 D = some (.lst acc) ∧ acc.length < sizeLine ∧ Nx (upd H4 D (.lst (acc ++ [y]))) else Nx H3) := by
  refine lc_list (xs := xs) (Lcp S I f H1 D) (Lcp.zero hD mI hI) (fun i H _ x => ha H x.2.1) (fun i x0 H hi x => ?_) (fun H x => ?_)
  · have hi' : i < xs.length := (List.getElem?_eq_some_iff.mp hi).1
    refine ⟨wipe1 _ _ _, iteT (B := Lcp S I f H1 D (i + 1) H) ?_⟩
    obtain ⟨acc, e⟩ : ∃ acc, H D = some (.lst acc) := by
      obtain ⟨_, _, ys, e, _⟩ := x
      exact ⟨ys, e⟩
    exact hs i x0 H acc hi x.1 x.2.1 e _ fun y H4 h1 h2 h3 => x.step hD hS mI mf (by omega) h1 h2 h3
  · obtain ⟨h1, h2, ys, e, hl, hf⟩ := x
    exact hd ys H hl hf e h1 h2
end
end Lk

set_option Elab.async false
set_option maxRecDepth 100000
set_option maxHeartbeats 1000000
namespace Lk
open PySem L2
abbrev s_law_of : Stmt := top 30
abbrev N_law_of : List Str := ["deal", "some"]
abbrev P_law_of : List Str := ["deal", "some"]
theorem sc_law_of : FnScope N_law_of P_law_of (defScope s_law_of) := ⟨rfl, rfl, rfl, by decide +kernel, rfl, by decide +kernel, by decide +kernel⟩
abbrev s_law_mixed : Stmt := top 31
abbrev N_law_mixed : List Str := ["deal", "some", "left", "found"]
abbrev P_law_mixed : List Str := ["deal", "some"]
theorem sc_law_mixed : FnScope N_law_mixed P_law_mixed (defScope s_law_mixed) := ⟨rfl, rfl, rfl, by decide +kernel, rfl, by decide +kernel, by decide +kernel⟩
/-- some item of the list -/
def spOf : Sp := fun vs H Q _ => ∃ (d l a : Addr) (xs : List V), vs = [.ref d, .ref a] ∧ H a = some (.lst xs) ∧ ¬ dl d l a ∧ 0 < xs.length ∧ xs.length ≤ 1000 ∧ DealAt H d l ∧
  ∀ (H' : Hp) (i : Nat) (v : V), DealAt H' d l → SB d l H H' → xs[i]? = some v → Q v H'
/-- the ints of a list in some order, in a new list -/
def spMixed (K : PySem.W.Frag) : Sp := fun vs H Q _ => ∃ (d l a : Addr) (ns : List Int), vs = [.ref d, .ref a] ∧ SqL K H a (ns.map V.int) ∧ ns.length ≤ 1000 ∧ DealAt H d l ∧
  ∀ (H' : Hp) (p : Addr) (ms : List Int), DealAt H' d l → SB d l H H' → H p = none → H' p = some (.lst (ms.map V.int)) → ms.Perm ns → Q (.ref p) H'
section
variable {P : Program} {w : World} {K : PySem.W.Frag} {mg : Str → Option Value} {base : Heap}
theorem atI_int {α : Type} {xs : List α} {r : Int} {v : α} (h0 : 0 ≤ r) (h : xs[r.toNat]? = some v) : atI xs r = some v := by
  obtain ⟨n, rfl⟩ := Int.eq_ofNat_of_zero_le h0
  exact atI_nat h
theorem eraseIdx_map {α β : Type} (g : α → β) : ∀ (xs : List α) (i : Nat), (xs.map g).eraseIdx i = (xs.eraseIdx i).map g
  | [], _ => rfl
  | _ :: _, 0 => rfl
  | _ :: xs, i + 1 => congrArg (_ :: ·) (eraseIdx_map g xs i)
theorem perm_erase {α : Type} : ∀ {xs : List α} {i : Nat} (h : i < xs.length), ([xs[i]] ++ xs.eraseIdx i).Perm xs
  | [], _, h => absurd h (Nat.not_lt_zero _)
  | x :: xs, 0, _ => List.Perm.refl _
  | x :: xs, i + 1, h => by
    have h' : i < xs.length := Nat.lt_of_succ_lt_succ h
    have ih := perm_erase (xs := xs) (i := i) h'
    show ([xs[i]] ++ (x :: xs.eraseIdx i)).Perm (x :: xs)
    exact (List.Perm.swap x xs[i] (xs.eraseIdx i)).trans (ih.cons x)
theorem ok_of {f fa : Addr} {fd fda : FuncData} (A0 : Df K mg "_law_of" s_law_of f fd P_law_of) (d_law_any : Df K mg "_law_any" s_law_any fa fda P_law_any) (T : Txt mg) : FnOk P w K mg base CX0 2 f fd P_law_of spOf := by
  have G_law_any : FnOk P w K mg base CX0 1 fa fda P_law_any spAny := ok_any d_law_any T
  refine A0.F.ok sc_law_of (fun vs H Q E h => ?_) (fun cdv A outer s H vs Q E hr h => ?_)
  · obtain ⟨d, l, a, xs, rfl, _⟩ := h
    rfl
  · obtain ⟨d, l, a, xs, rfl, hx, na, h0, h1, D, k⟩ := h
    refine ⟨_, (pss_one (ps_ret (pe_ix ix_list (pv 1) (pe_call G_law_any (hr.mono (by decide)) rfl d_law_any.g d_law_any.F.kp d_law_any.b .nil pass0 (pa_cons (pv 0) (pa_cons (pe_callB call_len_seq (by rfl) T.len PySem.boot_len (pa_cons (pv 1) pa_nil)) pa_nil))) (fun _ _ => rfl)))), ?_⟩
    refine ⟨_, rfl, _, rfl, _, rfl, a, xs, rfl, .inl (SqL.of hx), d, l, _, rfl, by omega, by omega, D, fun H' r D' S' r0 r1 => ?_⟩
    have hx' : H' a = some (.lst xs) := S'.kp.get na hx
    have hi : r.toNat < xs.length := by omega
    refine ⟨a, xs, r, xs[r.toNat], rfl, rfl, SqL.of hx', ?_, ?_⟩
    · exact atI_int r0 (List.getElem?_eq_getElem hi)
    · exact k H' r.toNat _ D' S' (List.getElem?_eq_getElem hi)
theorem ok_mixed {f fa : Addr} {fd fda : FuncData} (A0 : Df K mg "_law_mixed" s_law_mixed f fd P_law_mixed) (d_law_any : Df K mg "_law_any" s_law_any fa fda P_law_any) (T : Txt mg) : FnOk P w K mg base CX0 2 f fd P_law_mixed (spMixed K) := by
  have G_law_any : FnOk P w K mg base CX0 1 fa fda P_law_any spAny := ok_any d_law_any T
  refine A0.F.ok sc_law_mixed (fun vs H Q E h => ?_) (fun cdv A outer s H vs Q E hr h => ?_)
  · obtain ⟨d, l, a, xs, rfl, _⟩ := h
    rfl
  · obtain ⟨d, l, a, ns, rfl, hx, h1, D, k⟩ := h
    have hu : A.units + 3 + 64 < cLine := by have := hr.un; simp only [Around.deeper] at this; omega
    refine ⟨_, (pss_cons (ps_par (i := 2) (j := 3) rfl sc_law_mixed.nd rfl rfl (by decide) rfl rfl (pa_cons (pe_callTy call_list_of (by rfl) T.list (by decide +kernel) (pa_cons (pv 1) pa_nil)) (pa_cons (pe_lst pa_nil) pa_nil)) rfl)
    (pss_cons (ps_while PassesOwn.never (pt_cmpR (op_neD hu) (pv 2) (pe_lst pa_nil) (nomark _))
      (pss_one (ps_expr (pe_bm PySem.F.plainAttrs_list PySem.F.slot_list_append PySem.F.type_list_append mt_append (pv 3) (pa_cons (pe_bm PySem.F.plainAttrs_list PySem.F.slot_list_pop PySem.F.type_list_pop mt_popAt (pv 2) (pa_cons (pe_call G_law_any (hr.mono (by decide)) rfl d_law_any.g d_law_any.F.kp d_law_any.b .nil pass0 (pa_cons (pv 0) (pa_cons (pe_callB call_len_seq (by rfl) T.len PySem.boot_len (pa_cons (pv 2) pa_nil)) pa_nil))) pa_nil)) pa_nil)))))
    (pss_one (ps_ret (pv 3))))), ?_⟩
    refine ⟨_, rfl, a, _, rfl, .inl hx, fun q hq => ⟨Nat.zero_le _, fun r hr0 => ⟨_, _, rfl, ?_⟩⟩⟩
    have nqr : q ≠ r := fun e => by rw [← e, upd_same] at hr0; cases hr0
    have q0 : H q = none := hq
    have r0 : H r = none := by rw [upd_ne nqr.symm] at hr0; exact hr0
    refine ⟨fun m σ H1 => ∃ ls fs : List Int, σ = [some (.ref d), some (.ref a), some (.ref q), some (.ref r)] ∧ DealAt H1 d l ∧ SB d l H H1 ∧ H1 q = some (.lst (ls.map V.int)) ∧ H1 r = some (.lst (fs.map V.int)) ∧ (fs ++ ls).Perm ns ∧ m = ls.length,
      ⟨_, ns, [], rfl, ?_, ?_, ?_, ?_, List.Perm.refl _, rfl⟩, ?_⟩
    · exact (D.new hq).new hr0
    · exact ((KP.new (S := dl d l) hq).trans (KP.new hr0)).sb
    · rw [upd_ne nqr, upd_same]
    · rw [upd_same]
      rfl
    · rintro m σ H1 ⟨ls, fs, rfl, D1, S1, hq1, hr1, hp, rfl⟩
      refine ⟨_, rfl, Nat.zero_le _, fun z hz => ⟨_, _, Dp.lst (SqL.of (by rw [upd_ne (ne_of_none hq1 hz)]; exact hq1)) (dpAll_ints _), Dp.lst (SqL.of upd_same) .nil, shaped_ints _, by decide +kernel, _, rfl, ?_⟩⟩
      have D2 := D1.new (o := HO.lst []) hz
      have S2 : SB d l H _ := S1.trans (SB.new (o := HO.lst []) hz)
      have hq2 : upd H1 z (HO.lst []) q = some (.lst (ls.map V.int)) := by rw [upd_ne (ne_of_none hq1 hz)]; exact hq1
      have hr2 : upd H1 z (HO.lst []) r = some (.lst (fs.map V.int)) := by rw [upd_ne (ne_of_none hr1 hz)]; exact hr1
      rw [eqv_nil]
      have nq : ¬ dl d l q := D.free q0
      have nr : ¬ dl d l r := D.free r0
      cases ls with
      | nil =>
        refine iteF ?_
        refine ⟨_, rfl, ?_⟩
        rw [List.append_nil] at hp
        exact k _ r fs D2 S2 r0 hr2 hp
      | cons x xs =>
        refine iteT ⟨fun σ' H' => ∃ m', m' < (x :: xs).length ∧ ∃ ls fs : List Int, σ' = [some (.ref d), some (.ref a), some (.ref q), some (.ref r)] ∧ DealAt H' d l ∧ SB d l H H' ∧ H' q = some (.lst (ls.map V.int)) ∧ H' r = some (.lst (fs.map V.int)) ∧ (fs ++ ls).Perm ns ∧ m' = ls.length, fun _ _ h => h, ?_⟩
        have hlen : (x :: xs).length ≤ 1000 := by
          have := hp.length_eq
          rw [List.length_append] at this
          omega
        refine ⟨_, rfl, .inl ⟨rfl, _, SqL.of hr2⟩, _, rfl, .inl ⟨rfl, _, SqL.of hq2⟩, _, rfl, _, rfl, q, _, rfl, .inl (SqL.of hq2), d, l, _, rfl, by rw [List.length_map]; simp, by rw [List.length_map]; omega, D2, fun H3 i D3 S3 i0 i1 => ?_⟩
        rw [List.length_map] at i1
        have hi : i.toNat < (x :: xs).length := by omega
        have hq3 : H3 q = some (.lst ((x :: xs).map V.int)) := S3.kp.get nq hq2
        have hr3 : H3 r = some (.lst (fs.map V.int)) := S3.kp.get nr hr2
        refine ⟨q, _, i, i.toNat, V.int (x :: xs)[i.toNat], rfl, rfl, hq3, by omega, by omega, seqIndex_of i0 (by rw [List.length_map]; exact i1), ?_, ?_⟩
        · rw [List.getElem?_map, List.getElem?_eq_getElem hi]
          rfl
        · refine ⟨r, _, _, rfl, rfl, by rw [upd_ne nqr.symm]; exact hr3, ?_, ?_⟩
          · have := hp.length_eq
            rw [List.length_append] at this
            rw [List.length_map]
            exact Nat.lt_of_le_of_lt (by omega : _ ≤ 1000) (by decide)
          · refine ⟨((x :: xs).eraseIdx i.toNat).length, ?_, (x :: xs).eraseIdx i.toNat, fs ++ [(x :: xs)[i.toNat]], rfl, ?_, ?_, ?_, ?_, ?_, rfl⟩
            · rw [List.length_eraseIdx, if_pos hi]
              omega
            · exact (D3.upd nq).upd nr
            · exact (((S2.trans S3).kp.mut q0).mut r0).sb
            · rw [upd_ne nqr, upd_same, eraseIdx_map]
            · rw [upd_same, List.map_append]
              rfl
            · rw [List.append_assoc]
              refine (List.Perm.append_left fs ?_).trans hp
              exact perm_erase hi
end
end Lk

set_option Elab.async false
set_option maxRecDepth 100000
set_option maxHeartbeats 1000000
namespace Lk
open PySem L2
/-! ### lists of lists of ints -/
theorem collect {τ : Type} {g : τ → V} : ∀ {ys : List V} {Φ : Nat → τ → Prop}, (∀ i y, ys[i]? = some y → ∃ t, y = g t ∧ Φ i t) → ∃ ts : List τ, ys = ts.map g ∧ ∀ i t, ts[i]? = some t → Φ i t
  | [], _, _ => ⟨[], rfl, fun i t h => by simp at h⟩
  | y :: ys, Φ, h => by
    obtain ⟨t, rfl, h0⟩ := h 0 y rfl
    obtain ⟨ts, rfl, h1⟩ := collect (ys := ys) (Φ := fun i => Φ (i + 1)) fun i y e => h (i + 1) y e
    refine ⟨t :: ts, rfl, fun i u e => ?_⟩
    cases i with
    | zero =>
      have e' : t = u := Option.some.inj e
      rw [← e']
      exact h0
    | succ i => exact h1 i u e
structure GridAt (H : Hp) (p : Addr) (ts : List (Addr × List Int)) : Prop where
  top : H p = some (.lst (ts.map fun t => V.ref t.1))
  row : ∀ t ∈ ts, H t.1 = some (.lst (t.2.map V.int))
structure NewG (H : Hp) (p : Addr) (ts : List (Addr × List Int)) : Prop where
  top : H p = none
  row : ∀ t ∈ ts, H t.1 = none
theorem GridAt.kp {S : Addr → Prop} {H H' : Hp} {p : Addr} {ts : List (Addr × List Int)} (x : GridAt H p ts) (k : KP S H H') (h : ¬ S p) (hr : ∀ t ∈ ts, ¬ S t.1) : GridAt H' p ts :=
  ⟨k.get h x.top, fun t ht => k.get (hr t ht) (x.row t ht)⟩
theorem GridAt.same {H H' : Hp} {p : Addr} {ts : List (Addr × List Int)} (x : GridAt H p ts) (k : Same H H') : GridAt H' p ts := ⟨k _ _ x.top, fun t ht => k _ _ (x.row t ht)⟩
theorem KP.toSame {H H' : Hp} (x : KP (fun _ => False) H H') : Same H H' := fun a o h => x a o h id
theorem mem_of_get {α : Type} {xs : List α} {i : Nat} {x : α} (h : xs[i]? = some x) : x ∈ xs := List.mem_of_getElem? h
abbrev s_law_columns : Stmt := top 32
abbrev N_law_columns : List Str := ["columns", "column", "state"]
abbrev P_law_columns : List Str := ["columns"]
theorem sc_law_columns : FnScope N_law_columns P_law_columns (defScope s_law_columns) := ⟨rfl, rfl, rfl, by decide +kernel, rfl, by decide +kernel, by decide +kernel⟩
/-- columns turned into rows: of each row the length, and where its ints come from -/
def spColumns : Sp := fun vs H Q _ => ∃ (a : Addr) (ts : List (Addr × List Int)) (n : Nat), vs = [.ref a] ∧ GridAt H a ts ∧ 0 < ts.length ∧ ts.length ≤ 1000 ∧ n ≤ 1000 ∧ (∀ t ∈ ts, t.2.length = n) ∧
  ∀ (H' : Hp) (p : Addr) (us : List (Addr × List Int)), Same H H' → NewG H p us → GridAt H' p us → us.length = n → (∀ u ∈ us, u.2.length = ts.length ∧ ∀ z ∈ u.2, ∃ t ∈ ts, z ∈ t.2) → Q (.ref p) H'
section
variable {P : Program} {w : World} {K : PySem.W.Frag} {mg : Str → Option Value} {base : Heap}
theorem ok_columns {f : Addr} {fd : FuncData} (A0 : Df K mg "_law_columns" s_law_columns f fd P_law_columns) (T : Txt mg) : FnOk P w K mg base CX0 1 f fd P_law_columns spColumns := by
  refine A0.F.ok sc_law_columns (fun vs H Q E h => ?_) (fun cdv A outer s H vs Q E hr h => ?_)
  · obtain ⟨a, ts, n, rfl, _⟩ := h
    rfl
  · obtain ⟨a, ts, n, rfl, G, t0, t1, n1, hn, k⟩ := h
    refine ⟨_, (pss_one (ps_ret (pe_lc (own := [("state", 2)]) (g := gName 2) (tt := tYes) (te := tLc (iList K (tVar 0)) (gName 1) tYes (tOp (rIxL K) (tVar 1) (tVar 2)) [1]) rfl sc_law_columns.nd (pi_range1 rfl T.range (pa_cons (pe_callB call_len_seq (by rfl) T.len PySem.boot_len (pa_cons (pe_ix ix_list (pv 0) pe_int (fun _ _ => rfl)) pa_nil)) pa_nil)) (blkOk_by (N := N_law_columns) (sc := defScope s_law_columns) (by decide +kernel)) (fun _ _ _ _ _ => (pg_name (i := 2) sc_law_columns.nd rfl (Or.inr rfl))) (fun _ _ _ _ _ => pts_nil)
      (fun _ _ _ _ _ => (pe_lc (own := [("column", 1)]) (wi := iList K (tVar 0)) (g := gName 1) (tt := tYes) (te := tOp (rIxL K) (tVar 1) (tVar 2)) rfl sc_law_columns.nd (pi_list (pv 0)) (blkOk_by (N := N_law_columns) (sc := { kind := .function, names := [(".0", .local), ("state", .cell), ("columns", .cell)], isGenerator := false, isCoroutine := false }) (by decide +kernel)) (fun _ _ _ _ _ => (pg_name (i := 1) sc_law_columns.nd rfl (Or.inl rfl))) (fun _ _ _ _ _ => pts_nil) (fun _ _ _ _ _ => (pe_ix ix_list (pv 1) (pv 2) (fun _ _ => rfl)))))))), ?_⟩
    obtain ⟨u0, us, rfl⟩ : ∃ u0 us, ts = u0 :: us := by
      cases ts with
      | nil => simp at t0
      | cons u0 us => exact ⟨u0, us, rfl⟩
    have h00 := hn u0 List.mem_cons_self
    refine ⟨_, rfl, a, _, 0, V.ref u0.1, rfl, rfl, SqL.of G.top, atI_int (by decide) rfl, u0.1, _, rfl, .inl (SqL.of (G.row u0 List.mem_cons_self)), _, rfl, by omega, by rw [List.length_map]; omega, fun D hD => ?_⟩
    rw [List.length_map, h00]
    refine lcR (fun _ => False) (fun _ => True) (fun i y H' => ∃ t : Addr × List Int, y = V.ref t.1 ∧ H t.1 = none ∧ t.1 ≠ D ∧ H' t.1 = some (.lst (t.2.map V.int)) ∧ t.2.length = (u0 :: us).length ∧ ∀ z ∈ t.2, ∃ q ∈ (u0 :: us), z ∈ q.2)
      hD id (by simp; omega) trivial (fun _ _ _ => trivial) (fun i y H1 H2 kp ⟨t, e, h1, h2, h3, h4⟩ => ⟨t, e, h1, h2, kp.get (fun q => q.elim id h2) h3, h4⟩) (fun i H1 acc hi _ k1 hD1 Q1 kQ => ?_) (fun ys H' hl hf hD' _ kp => ?_)
    · simp at hi
      have G1 : GridAt H1 a (u0 :: us) := G.same k1.toSame
      refine ⟨_, rfl, a, rfl, ⟨_, SqL.of G1.top⟩, fun D2 hD2 => ?_⟩
      refine lcL (xs := (u0 :: us).map fun t => V.ref t.1) (fun _ => False) (fun _ => True) (fun i y _ => ∃ z : Int, y = V.int z ∧ ∃ q ∈ (u0 :: us), z ∈ q.2) hD2 id (by rw [List.length_map]; omega) trivial (fun _ _ _ => trivial) (fun _ _ _ _ _ x => x) (fun H2 kp => SqL.of (kp.get id G1.top))
        (fun j x H2 acc2 hj _ k2 _ Q2 kQ2 => ?_) (fun ys2 H3 hl2 hf2 hD3 _ kp3 => ?_)
      · rw [List.getElem?_map] at hj
        obtain ⟨t, ht, rfl⟩ : ∃ t, (u0 :: us)[j]? = some t ∧ V.ref t.1 = x := by
          cases e : (u0 :: us)[j]? with
          | none => rw [e] at hj; cases hj
          | some t => rw [e] at hj; exact ⟨t, rfl, Option.some.inj hj⟩
        have hm := mem_of_get ht
        have hlt : i < t.2.length := by rw [hn t hm]; exact hi
        refine ⟨_, rfl, _, rfl, t.1, _, _, V.int t.2[i], rfl, rfl, SqL.of (k2.get id (G1.row t hm)), ?_, kQ2 _ _ trivial (KP.refl _ _) ⟨_, rfl, t, hm, List.getElem_mem hlt⟩⟩
        refine atI_int (by omega) ?_
        have e : ((0 : Int) + (i : Int)).toNat = i := by omega
        rw [e, List.getElem?_map, List.getElem?_eq_getElem hlt]
        rfl
      · obtain ⟨zs, rfl, hz⟩ := collect (g := V.int) hf2
        refine kQ _ _ trivial kp3 ⟨(D2, zs), rfl, k1.free id hD2, fun e => ?_, hD3, by rw [List.length_map] at hl2; rw [hl2, List.length_map], fun z hz' => ?_⟩
        · have e' : D2 = D := e
          rw [e', hD1] at hD2
          cases hD2
        · obtain ⟨j, hj⟩ := List.getElem?_of_mem hz'
          exact hz j z hj
    · obtain ⟨vs, rfl, hv⟩ := collect (g := fun t : Addr × List Int => V.ref t.1) hf
      have hv' : ∀ t ∈ vs, H t.1 = none ∧ t.1 ≠ D ∧ H' t.1 = some (.lst (t.2.map V.int)) ∧ t.2.length = (u0 :: us).length ∧ ∀ z ∈ t.2, ∃ q ∈ (u0 :: us), z ∈ q.2 := fun t ht => by
        obtain ⟨j, hj⟩ := List.getElem?_of_mem ht
        exact hv j t hj
      refine k H' D vs kp.toSame ⟨hD, fun t ht => (hv' t ht).1⟩ ⟨hD', fun t ht => (hv' t ht).2.2.1⟩ ?_ fun t ht => (hv' t ht).2.2.2
      rw [List.length_map] at hl
      rw [hl]
      simp
end
end Lk

set_option Elab.async false
set_option maxRecDepth 100000
set_option maxHeartbeats 1000000
namespace Lk
open PySem L2
abbrev s_law_column : Stmt := top 33
abbrev N_law_column : List Str := ["deal", "form", "many", "to", "state", "half"]
abbrev P_law_column : List Str := ["deal", "form", "many"]
theorem sc_law_column : FnScope N_law_column P_law_column (defScope s_law_column) := ⟨rfl, rfl, rfl, by decide +kernel, rfl, by decide +kernel, by decide +kernel⟩
/-- a column: as many ints as there are states, each a state -/
def spColumn : Sp := fun vs H Q _ => ∃ (d l : Addr) (form n : Int), vs = [.ref d, .int form, .int n] ∧ 0 < n ∧ n ≤ 1000 ∧ DealAt H d l ∧
  ∀ (H' : Hp) (p : Addr) (ns : List Int), DealAt H' d l → SB d l H H' → H p = none → H' p = some (.lst (ns.map V.int)) → (ns.length : Int) = n → (∀ z ∈ ns, 0 ≤ z ∧ z < n) → Q (.ref p) H'
section
variable {j : Nat} {te : TE} {σ : St} {H1 : Hp} {D : Addr} {Qd : Hp → Prop} {d l : Addr}
/-- a list of drawn ints over a range -/
theorem lcI {n : Nat} (φ : Nat → Int → Prop) (hD : H1 D = none) (hI : DealAt H1 d l) (hn : n ≤ 1000000)
    (hs : ∀ i H, i < n → DealAt H d l → SB d l H1 H → ∀ Q : VK, (∀ z H4, DealAt H4 d l → SB d l H H4 → φ i z → Q (.int z) H4) → te ((wipe σ [j]).set j (some (.int (0 + i)))) H Q)
    (hd : ∀ (ns : List Int) H', ns.length = n → (∀ (i : Nat) z, ns[i]? = some z → φ i z) → H' D = some (.lst (ns.map V.int)) → DealAt H' d l → SB d l H1 H' → Qd H') :
    ∃ W : Nat → Nat → Hp → Prop, (∃ m, W 0 m (upd H1 D (.lst []))) ∧ ∀ i m H, W i m H →
      ((Itr 0 n).stop i H ∧ Qd H) ∨ ((Itr 0 n).go i H ∧ ∃ Nx : Hp → Prop, (∀ H', Nx H' → ∃ m', m' < m ∧ W (i + 1) m' H') ∧ ∀ x H', (Itr 0 n).yld i H x H' → gName j x (wipe σ [j]) H' fun σ2 H2 => wipe σ2 [j] = wipe σ [j] ∧ tYes σ2 H2 fun b H3 =>
        if b = true then te σ2 H3 fun y H4 => ∃ acc, H4 D = some (.lst acc) ∧ acc.length < sizeLine ∧ Nx (upd H4 D (.lst (acc ++ [y]))) else Nx H3) := by
  have nD : ¬ dl d l D := hI.free hD
  refine lcR (dl d l) (fun H => DealAt H d l) (fun i y _ => ∃ z : Int, y = V.int z ∧ φ i z) hD nD hn hI (fun H o x => x.upd nD) (fun _ _ _ _ _ x => x) (fun i H acc hi x k1 _ Q kQ => ?_) (fun ys H' hl hf hD' x k1 => ?_)
  · exact hs i H hi x k1.sb Q fun z H4 x4 k4 hz => kQ _ _ x4 k4.kp ⟨z, rfl, hz⟩
  · obtain ⟨zs, rfl, hz⟩ := collect (g := V.int) hf
    exact hd zs H' (by rw [← hl, List.length_map]) hz hD' x k1.sb
end
theorem flat_rep {α : Type} (x : α) : ∀ k : Nat, (List.replicate k [x]).flatten = List.replicate k x
  | 0 => rfl
  | k + 1 => by
    show [x] ++ (List.replicate k [x]).flatten = _
    rw [flat_rep x k] <;> rfl
theorem all_of_get {ns : List Int} {φ : Int → Prop} (h : ∀ (i : Nat) z, ns[i]? = some z → φ z) : ∀ z ∈ ns, φ z := fun z hz => by
  obtain ⟨i, hi⟩ := List.getElem?_of_mem hz
  exact h i z hi
section
variable {P : Program} {w : World} {K : PySem.W.Frag} {mg : Str → Option Value} {base : Heap}
theorem ok_column {f fa fm : Addr} {fd fda fdm : FuncData} (A0 : Df K mg "_law_column" s_law_column f fd P_law_column) (d_law_any : Df K mg "_law_any" s_law_any fa fda P_law_any) (d_law_mixed : Df K mg "_law_mixed" s_law_mixed fm fdm P_law_mixed) (T : Txt mg) : FnOk P w K mg base CX0 3 f fd P_law_column spColumn := by
  have G_law_any : FnOk P w K mg base CX0 1 fa fda P_law_any spAny := ok_any d_law_any T
  have G_law_mixed : FnOk P w K mg base CX0 2 fm fdm P_law_mixed (spMixed K) := ok_mixed d_law_mixed d_law_any T
  refine A0.F.ok sc_law_column (fun vs H Q E h => ?_) (fun cdv A outer s H vs Q E hr h => ?_)
  · obtain ⟨d, l, form, n, rfl, _⟩ := h
    rfl
  · obtain ⟨d, l, form, n, rfl, n0, n1, D, k⟩ := h
    refine ⟨_, (pss_cons (ps_set (i := 3) sc_law_column.nd rfl (Or.inr rfl) (pe_call G_law_any (hr.mono (by decide)) rfl d_law_any.g d_law_any.F.kp d_law_any.b .nil pass0 (pa_cons (pv 0) (pa_cons (pv 2) pa_nil))))
    (pss_cons (ps_if (pt_cmpR op_eq (pv 1) pe_int (nomark _)) (pss_one (ps_ret (pe_lc (own := [("state", 4)]) (g := gName 4) (tt := tYes) rfl sc_law_column.nd (pi_range1 rfl T.range (pa_cons (pv 2) pa_nil)) (blkOk_by (N := N_law_column) (sc := defScope s_law_column) (by decide +kernel)) (fun _ _ _ _ _ => (pg_name (i := 4) sc_law_column.nd rfl (Or.inl rfl))) (fun _ _ _ _ _ => pts_nil) (fun _ _ _ _ _ => (pe_op op_mod (pe_callTy call_int1 (by rfl) T.int (by decide +kernel) (pa_cons (pe_op op_add (pv 4) (pv 3)) pa_nil)) (pv 2)))))) pss_nil)
    (pss_cons (ps_if (pt_cmpR op_eq (pv 1) pe_int (nomark _)) (pss_one (ps_ret (pe_op op_rep (pe_lst (pa_cons (pv 3) pa_nil)) (pv 2)))) pss_nil)
    (pss_cons (ps_if (pt_cmpR op_eq (pv 1) pe_int (nomark _)) (pss_one (ps_ret (pe_lc (own := [("state", 4)]) (g := gName 4) (tt := tYes) rfl sc_law_column.nd (pi_range1 rfl T.range (pa_cons (pv 2) pa_nil)) (blkOk_by (N := N_law_column) (sc := defScope s_law_column) (by decide +kernel)) (fun _ _ _ _ _ => (pg_name (i := 4) sc_law_column.nd rfl (Or.inl rfl))) (fun _ _ _ _ _ => pts_nil) (fun _ _ _ _ _ => (pe_ifExp (pt_cmpR op_eq (pv 4) pe_int (nomark _)) (pv 3) (pv 4)))))) pss_nil)
    (pss_cons (ps_if (pt_cmpR op_eq (pv 1) pe_int (nomark _)) (pss_one (ps_ret (pe_lc (own := [("state", 4)]) (g := gName 4) (tt := tYes) rfl sc_law_column.nd (pi_range1 rfl T.range (pa_cons (pv 2) pa_nil)) (blkOk_by (N := N_law_column) (sc := defScope s_law_column) (by decide +kernel)) (fun _ _ _ _ _ => (pg_name (i := 4) sc_law_column.nd rfl (Or.inl rfl))) (fun _ _ _ _ _ => pts_nil) (fun _ _ _ _ _ => (pe_callB (call_max2 rfl) (by rfl) T.max (by decide +kernel) (pa_cons pe_int (pa_cons (pe_callB (call_min2 rfl) (by rfl) T.min (by decide +kernel) (pa_cons (pe_op op_sub (pv 2) pe_int) (pa_cons (pe_op op_sub (pe_op op_add (pv 4) (pv 3)) pe_int) pa_nil))) pa_nil))))))) pss_nil)
    (pss_cons (ps_if (pt_cmpR op_eq (pv 1) pe_int (nomark _)) (pss_one (ps_ret (pe_call G_law_mixed (hr.mono (by decide)) rfl d_law_mixed.g d_law_mixed.F.kp d_law_mixed.b .nil pass0 (pa_cons (pv 0) (pa_cons (pe_listRg rfl (by rfl) T.list (prg_1 (by rfl) T.range (pv 2))) pa_nil))))) pss_nil)
    (pss_cons (ps_if (pt_cmpR op_eq (pv 1) pe_int (nomark _)) (pss_one (ps_ret (pe_lc (own := [("state", 4)]) (g := gName 4) (tt := tYes) rfl sc_law_column.nd (pi_range1 rfl T.range (pa_cons (pv 2) pa_nil)) (blkOk_by (N := N_law_column) (sc := defScope s_law_column) (by decide +kernel)) (fun _ _ _ _ _ => (pg_name (i := 4) sc_law_column.nd rfl (Or.inl rfl))) (fun _ _ _ _ _ => pts_nil) (fun _ _ _ _ _ => (pe_callB (call_max2 rfl) (by rfl) T.max (by decide +kernel) (pa_cons (pv 4) (pa_cons (pv 3) pa_nil))))))) pss_nil)
    (pss_cons (ps_if (pt_cmpR op_eq (pv 1) pe_int (nomark _)) (pss_cons (ps_set (i := 5) sc_law_column.nd rfl (Or.inr rfl) (pe_callB (call_max2 rfl) (by rfl) T.max (by decide +kernel) (pa_cons pe_int (pa_cons (pe_op op_fdiv (pv 2) pe_int) pa_nil))))
      (pss_one (ps_ret (pe_lc (own := [("state", 4)]) (g := gName 4) (tt := tYes) rfl sc_law_column.nd (pi_range1 rfl T.range (pa_cons (pv 2) pa_nil)) (blkOk_by (N := N_law_column) (sc := defScope s_law_column) (by decide +kernel)) (fun _ _ _ _ _ => (pg_name (i := 4) sc_law_column.nd rfl (Or.inl rfl))) (fun _ _ _ _ _ => pts_nil) (fun _ _ _ _ _ => (pe_op op_add (pe_op op_mod (pe_callTy call_int1 (by rfl) T.int (by decide +kernel) (pa_cons (pe_op op_add (pv 4) (pv 3)) pa_nil)) (pv 5)) (pe_ifExp (PW.pt (pw_and (pt_cmpR op_ge (pv 4) (pv 5) (nomark _)) (pw_and1 (pt_cmpR op_le (pe_op op_mul pe_int (pv 5)) (pv 2) (nomark _))))) (pv 5) pe_int))))))) pss_nil)
    (pss_one (ps_ret (pe_lc (own := [("state", 4)]) (g := gName 4) (tt := tYes) rfl sc_law_column.nd (pi_range1 rfl T.range (pa_cons (pv 2) pa_nil)) (blkOk_by (N := N_law_column) (sc := defScope s_law_column) (by decide +kernel)) (fun _ _ _ _ _ => (pg_name (i := 4) sc_law_column.nd rfl (Or.inl rfl))) (fun _ _ _ _ _ => pts_nil) (fun _ _ _ _ _ => (pe_call G_law_any (hr.mono (by decide)) rfl d_law_any.g d_law_any.F.kp d_law_any.b .nil pass0 (pa_cons (pv 0) (pa_cons (pv 2) pa_nil))))))))))))))), ?_⟩
    refine ⟨_, rfl, _, rfl, d, l, n, rfl, n0, by omega, D, fun H1 to D1 S1 to0 to1 => ?_⟩
    have back : ∀ (H' : Hp) (p : Addr) (ns : List Int), H1 p = none → DealAt H' d l → SB d l H1 H' → H' p = some (.lst (ns.map V.int)) → ns.length = n.toNat → (∀ z ∈ ns, 0 ≤ z ∧ z < n) → Q (.ref p) H' := fun H' p ns h1 h2 h3 h4 h5 h6 =>
      k H' p ns h2 (S1.trans h3) (S1.kp.free (D1.free h1) h1) h4 (by omega) h6
    refine ⟨_, rfl, rfl, _, rfl, ite2 (fun _ => ?_) (fun _ => ?_)⟩
    · refine ⟨_, rfl, n, rfl, by omega, by omega, fun p hp => lcI (fun _ z => 0 ≤ z ∧ z < n) hp D1 (by omega) (fun i H hi x _ Q kQ => ?_) (fun ns H' hl hz hD x k1 => back H' p ns hp x k1 hD hl (all_of_get hz))⟩
      exact ⟨_, rfl, _, rfl, _, _, rfl, rfl, .inl ⟨_, rfl, _, rfl, _, _, rfl, rfl, n0, kQ _ _ x (SB.refl _ _ _) ⟨Int.emod_nonneg _ (by omega), Int.emod_lt_of_pos _ n0⟩⟩⟩
    refine ⟨_, rfl, rfl, _, rfl, ite2 (fun _ => ?_) (fun _ => ?_)⟩
    · refine ⟨_, rfl, by show 1 ≤ sizeLine; decide, fun q hq => ⟨_, rfl, q, n, _, rfl, rfl, upd_same, by omega, by omega, Nat.le_trans (show 1 * n.toNat ≤ 1000 by omega) (by decide), fun p hp => ?_⟩⟩
      rw [flat_rep]
      have hp1 : H1 p = none := (KP.new (S := dl d l) hq).free ((D1.new hq).free hp) hp
      refine back _ p (List.replicate n.toNat to) hp1 ((D1.new hq).new hp) ((SB.new hq).trans (SB.new hp)) (by rw [upd_same, List.map_replicate]) (by simp) fun z hz => ?_
      rw [List.eq_of_mem_replicate hz]
      exact ⟨to0, to1⟩
    refine ⟨_, rfl, rfl, _, rfl, ite2 (fun _ => ?_) (fun _ => ?_)⟩
    · refine ⟨_, rfl, n, rfl, by omega, by omega, fun p hp => lcI (fun _ z => 0 ≤ z ∧ z < n) hp D1 (by omega) (fun i H hi x _ Q kQ => ?_) (fun ns H' hl hz hD x k1 => back H' p ns hp x k1 hD hl (all_of_get hz))⟩
      refine ⟨_, rfl, rfl, _, rfl, ite2 (fun _ => ?_) (fun _ => ?_)⟩
      · exact ⟨_, rfl, kQ _ _ x (SB.refl _ _ _) ⟨to0, to1⟩⟩
      · exact ⟨_, rfl, kQ _ _ x (SB.refl _ _ _) ⟨by omega, by omega⟩⟩
    refine ⟨_, rfl, rfl, _, rfl, ite2 (fun _ => ?_) (fun _ => ?_)⟩
    · refine ⟨_, rfl, n, rfl, by omega, by omega, fun p hp => lcI (fun _ z => 0 ≤ z ∧ z < n) hp D1 (by omega) (fun i H hi x _ Q kQ => ?_) (fun ns H' hl hz hD x k1 => back H' p ns hp x k1 hD hl (all_of_get hz))⟩
      refine ⟨_, rfl, _, _, rfl, rfl, _, rfl, _, rfl, _, _, rfl, rfl, _, _, rfl, rfl, _, _, rfl, _, _, rfl, ?_⟩
      refine kQ _ _ x (SB.refl _ _ _) ⟨?_, ?_⟩
      · split <;> omega
      · split
        · split <;> omega
        · omega
    refine ⟨_, rfl, rfl, _, rfl, ite2 (fun _ => ?_) (fun _ => ?_)⟩
    · refine ⟨_, rfl, _, rfl, n, rfl, RgOk.of_le (by decide) (by omega) (by decide) (by omega), fun q hq => ?_⟩
      refine ⟨d, l, q, (List.range n.toNat).map fun i => ((i : Nat) : Int), rfl, SqL.of ?_, by simp; omega, D1.new hq, fun H' p ms x k1 h1 h2 h3 => ?_⟩
      · rw [upd_same]
        unfold rgV
        rw [List.map_map]
        simp
      · refine back H' p ms (KP.free (S := dl d l) (KP.new hq) ((D1.new hq).free h1) h1) x ((SB.new hq).trans k1) h2 ?_ fun z hz => ?_
        · rw [h3.length_eq]
          simp
        · obtain ⟨i, hi, rfl⟩ := List.mem_map.mp (h3.mem_iff.mp hz)
          have := List.mem_range.mp hi
          omega
    refine ⟨_, rfl, rfl, _, rfl, ite2 (fun _ => ?_) (fun _ => ?_)⟩
    · refine ⟨_, rfl, n, rfl, by omega, by omega, fun p hp => lcI (fun _ z => 0 ≤ z ∧ z < n) hp D1 (by omega) (fun i H hi x _ Q kQ => ?_) (fun ns H' hl hz hD x k1 => back H' p ns hp x k1 hD hl (all_of_get hz))⟩
      refine ⟨_, rfl, _, rfl, _, _, rfl, kQ _ _ x (SB.refl _ _ _) ⟨?_, ?_⟩⟩
      · split <;> omega
      · split <;> omega
    refine ⟨_, rfl, rfl, _, rfl, ite2 (fun _ => ?_) (fun _ => ?_)⟩
    · refine ⟨_, rfl, _, _, rfl, rfl, ⟨by decide, by decide⟩, _, _, rfl, ?_⟩
      refine ⟨_, rfl, n, rfl, by omega, by omega, fun p hp => lcI (fun _ z => 0 ≤ z ∧ z < n) hp D1 (by omega) (fun i H hi x _ Q kQ => ?_) (fun ns H' hl hz hD x k1 => back H' p ns hp x k1 hD hl (all_of_get hz))⟩
      obtain ⟨half, eh, h0, h1, h2⟩ : ∃ half : Int, half = (if n / 2 > 1 then n / 2 else 1) ∧ 0 < half ∧ half ≤ n ∧ True := ⟨_, rfl, by split <;> omega, by split <;> omega, trivial⟩
      have r0 := Int.emod_nonneg (0 + (i : Int) + to) (show half ≠ 0 by omega)
      have r1 := Int.emod_lt_of_pos (0 + (i : Int) + to) h0
      have hb : ∀ y : Int, (y = half ∧ 2 * half ≤ n) ∨ y = 0 → 0 ≤ (0 + (i : Int) + to) % half + y ∧ (0 + (i : Int) + to) % half + y < n := fun y hy => by
        rcases hy with ⟨e, q⟩ | e <;> omega
      refine ⟨_, rfl, _, rfl, _, _, rfl, rfl, .inl ⟨_, rfl, _, rfl, _, _, rfl, rfl, ?_, ?_⟩⟩
      · rw [← eh]
        exact h0
      · refine ⟨_, rfl, _, rfl, _, _, rfl, rfl, _, rfl, ite2 (fun h3 => ?_) (fun _ => ?_)⟩
        · refine ⟨_, rfl, _, _, rfl, rfl, .inl ⟨by decide, by decide⟩, _, rfl, _, _, rfl, rfl, _, rfl, ite2 (fun h4 => ?_) (fun _ => ?_)⟩
          · have h4' := of_decide_eq_true h4
            rw [← eh] at h4'
            refine ⟨_, rfl, _, _, rfl, rfl, kQ _ _ x (SB.refl _ _ _) ?_⟩
            rw [← eh]
            exact hb half (.inl ⟨rfl, h4'⟩)
          · refine ⟨_, _, rfl, rfl, kQ _ _ x (SB.refl _ _ _) ?_⟩
            rw [← eh]
            exact hb 0 (.inr rfl)
        · refine iteF ⟨_, _, rfl, rfl, kQ _ _ x (SB.refl _ _ _) ?_⟩
          rw [← eh]
          exact hb 0 (.inr rfl)
    · refine ⟨_, rfl, n, rfl, by omega, by omega, fun p hp => lcI (fun _ z => 0 ≤ z ∧ z < n) hp D1 (by omega) (fun i H hi x _ Q kQ => ?_) (fun ns H' hl hz hD x k1 => back H' p ns hp x k1 hD hl (all_of_get hz))⟩
      exact ⟨_, rfl, _, rfl, d, l, n, rfl, n0, by omega, x, fun H4 r x4 k4 r0 r1 => kQ _ _ x4 k4 ⟨r0, r1⟩⟩
end
end Lk

set_option Elab.async false
set_option maxRecDepth 100000
set_option maxHeartbeats 1000000
namespace Lk
open PySem L2
abbrev s_law_machine : Stmt := top 34
abbrev N_law_machine : List Str := ["deal", "most", "form", "commands", "one", "other", "s", "many", "columns", "command", "kind"]
abbrev P_law_machine : List Str := ["deal", "most"]
theorem sc_law_machine : FnScope N_law_machine P_law_machine (defScope s_law_machine) := ⟨rfl, rfl, rfl, by decide +kernel, rfl, by decide +kernel, by decide +kernel⟩
/-- as a machine's steps: rows of A states each -/
structure RowsOk (A : Nat) (ts : List (Addr × List Int)) : Prop where
  pos : 0 < ts.length
  row : ∀ t ∈ ts, t.2.length = A ∧ ∀ z ∈ t.2, 0 ≤ z ∧ z < (ts.length : Int)
/-- a drawn machine: (commands, steps) -/
def spMachine : Sp := fun vs H Q _ => ∃ (d l : Addr) (most : Int), vs = [.ref d, .int most] ∧ 0 < most ∧ most ≤ 100 ∧ DealAt H d l ∧
  ∀ (H' : Hp) (t p : Addr) (A : Nat) (ts : List (Addr × List Int)), DealAt H' d l → SB d l H H' → H t = none → H' t = some (.tup [.int A, .ref p]) → NewG H p ts → GridAt H' p ts → 0 < A → A ≤ 3 → (ts.length : Int) ≤ most → RowsOk A ts → Q (.ref t) H'
theorem GridAt.snoc {H : Hp} {c p : Addr} {ts : List (Addr × List Int)} {ns : List Int} (x : GridAt H c ts) (hp : H p = some (.lst (ns.map V.int))) (n : p ≠ c) (hr : ∀ t ∈ ts, t.1 ≠ c) :
    GridAt (upd H c (.lst ((ts.map fun t => V.ref t.1) ++ [.ref p]))) c (ts ++ [(p, ns)]) := by
  refine ⟨by rw [upd_same, List.map_append] <;> rfl, fun t ht => ?_⟩
  rcases List.mem_append.mp ht with h | h
  · rw [upd_ne (hr t h)]
    exact x.row t h
  · rw [List.mem_singleton.mp h, upd_ne n]
    exact hp
theorem GridAt.new {H : Hp} {p q : Addr} {o : HO} {ts : List (Addr × List Int)} (x : GridAt H p ts) (h : H q = none) : GridAt (upd H q o) p ts :=
  ⟨by rw [upd_ne (ne_of_none x.top h)]; exact x.top, fun t ht => by rw [upd_ne (ne_of_none (x.row t ht) h)]; exact x.row t ht⟩
theorem NewG.back {S : Addr → Prop} {H H1 : Hp} {p : Addr} {ts : List (Addr × List Int)} (x : NewG H1 p ts) (k : KP S H H1) (n : ¬ S p) (hn : ∀ t ∈ ts, ¬ S t.1) : NewG H p ts :=
  ⟨k.free n x.top, fun t ht => k.free (hn t ht) (x.row t ht)⟩
/-- new behind what has a deal: new ahead of it -/
theorem NewG.deal {H H1 : Hp} {d l p : Addr} {ts : List (Addr × List Int)} (x : NewG H1 p ts) (k : SB d l H H1) (D : DealAt H1 d l) : NewG H p ts :=
  x.back k.kp (D.free x.top) fun t ht => D.free (x.row t ht)
theorem nk {H : Hp} {a p : Addr} {o u : HO} (h : H a = some o) (hp : H p = none) : upd H p u a = some o := (upd_ne (ne_of_none h hp)).trans h
theorem ff {H : Hp} {p q : Addr} {u : HO} (hp : H p = none) (hq : upd H p u q = none) : H q = none := (KP.new (S := fun _ => False) hp).free id hq
theorem two_ways {c : Prop} [Decidable c] {A X B : Prop} (hB : B) (h : c → B → X) : if c then X else (if false = true then A else B) := by
  by_cases hc : c
  · rw [if_pos hc]
    exact h hc hB
  · rw [if_neg hc]
    exact iteF hB
section
variable {K : PySem.W.Frag} {j : Nat} {te : TE} {σ : St} {H1 : Hp} {D : Addr} {Qd : Hp → Prop} {d l : Addr}
def fG (φ : Nat → List Int → Prop) (H1 : Hp) (D : Addr) (i : Nat) (y : V) (H : Hp) : Prop := ∃ t : Addr × List Int, y = V.ref t.1 ∧ H1 t.1 = none ∧ t.1 ≠ D ∧ H t.1 = some (.lst (t.2.map V.int)) ∧ φ i t.2
theorem fG_end {φ : Nat → List Int → Prop} {ys : List V} {H' : Hp} (hD : H1 D = none) (hf : ∀ i y, ys[i]? = some y → fG φ H1 D i y H') (hD' : H' D = some (.lst ys)) :
    ∃ ts : List (Addr × List Int), ts.length = ys.length ∧ NewG H1 D ts ∧ GridAt H' D ts ∧ ∀ i t, ts[i]? = some t → φ i t.2 := by
  obtain ⟨ts, rfl, ht⟩ := collect (g := fun t : Addr × List Int => V.ref t.1) hf
  have hm : ∀ t ∈ ts, H1 t.1 = none ∧ H' t.1 = some (.lst (t.2.map V.int)) := fun t h => by
    obtain ⟨i, hi⟩ := List.getElem?_of_mem h
    exact ⟨(ht i t hi).1, (ht i t hi).2.2.1⟩
  exact ⟨ts, by rw [List.length_map], ⟨hD, fun t h => (hm t h).1⟩, ⟨hD', fun t h => (hm t h).2⟩, fun i t h => (ht i t h).2.2.2⟩
/-- rows made over a range -/
theorem lcGR {n : Nat} (φ : Nat → List Int → Prop) (hD : H1 D = none) (hI : DealAt H1 d l) (hn : n ≤ 1000000)
    (hs : ∀ i H, i < n → DealAt H d l → SB d l H1 H → ∀ Q : VK, (∀ a r H4, DealAt H4 d l → SB d l H H4 → H a = none → H4 a = some (.lst (r.map V.int)) → φ i r → Q (.ref a) H4) → te ((wipe σ [j]).set j (some (.int (0 + i)))) H Q)
    (hd : ∀ ts H', ts.length = n → (∀ (i : Nat) t, ts[i]? = some t → φ i t.2) → NewG H1 D ts → GridAt H' D ts → DealAt H' d l → SB d l H1 H' → Qd H') :
    ∃ W : Nat → Nat → Hp → Prop, (∃ m, W 0 m (upd H1 D (.lst []))) ∧ ∀ i m H, W i m H →
      ((Itr 0 n).stop i H ∧ Qd H) ∨ ((Itr 0 n).go i H ∧ ∃ Nx : Hp → Prop, (∀ H', Nx H' → ∃ m', m' < m ∧ W (i + 1) m' H') ∧ ∀ x H', (Itr 0 n).yld i H x H' → gName j x (wipe σ [j]) H' fun σ2 H2 => wipe σ2 [j] = wipe σ [j] ∧ tYes σ2 H2 fun b H3 =>
        if b = true then te σ2 H3 fun y H4 => ∃ acc, H4 D = some (.lst acc) ∧ acc.length < sizeLine ∧ Nx (upd H4 D (.lst (acc ++ [y]))) else Nx H3) := by
  have nD : ¬ dl d l D := hI.free hD
  refine lcR (dl d l) (fun H => DealAt H d l) (fG φ H1 D) hD nD hn hI (fun H o x => x.upd nD) (fun i y H H' k ⟨t, e, h1, h2, h3, h4⟩ => ⟨t, e, h1, h2, k.get (fun q => q.elim (hI.free h1) h2) h3, h4⟩) (fun i H acc hi x k1 hDa Q kQ => ?_) (fun ys H' hl hf hD' x k1 => ?_)
  · refine hs i H hi x k1.sb Q fun a r H4 x4 k4 ha ha4 hr => kQ _ _ x4 k4.kp ⟨(a, r), rfl, k1.free (x.free ha) ha, fun e => ?_, ha4, hr⟩
    have e' : a = D := e
    rw [e', hDa] at ha
    cases ha
  · obtain ⟨ts, h1, h2, h3, h4⟩ := fG_end hD hf hD'
    exact hd ts H' (h1.trans hl) h4 h2 h3 x k1.sb
/-- rows made over a list -/
theorem lcGL {a : Addr} {xs : List V} (φ : Nat → List Int → Prop) (hD : H1 D = none) (hI : DealAt H1 d l) (hn : xs.length ≤ 1000000) (ha : ∀ H, SB d l H1 H → SqL K H a xs)
    (hs : ∀ i x H, xs[i]? = some x → DealAt H d l → SB d l H1 H → ∀ Q : VK, (∀ a r H4, DealAt H4 d l → SB d l H H4 → H a = none → H4 a = some (.lst (r.map V.int)) → φ i r → Q (.ref a) H4) → te ((wipe σ [j]).set j (some x)) H Q)
    (hd : ∀ ts H', ts.length = xs.length → (∀ (i : Nat) t, ts[i]? = some t → φ i t.2) → NewG H1 D ts → GridAt H' D ts → DealAt H' d l → SB d l H1 H' → Qd H') :
    ∃ W : Nat → Nat → Hp → Prop, (∃ m, W 0 m (upd H1 D (.lst []))) ∧ ∀ i m H, W i m H →
      ((Itl K a).stop i H ∧ Qd H) ∨ ((Itl K a).go i H ∧ ∃ Nx : Hp → Prop, (∀ H', Nx H' → ∃ m', m' < m ∧ W (i + 1) m' H') ∧ ∀ x H', (Itl K a).yld i H x H' → gName j x (wipe σ [j]) H' fun σ2 H2 => wipe σ2 [j] = wipe σ [j] ∧ tYes σ2 H2 fun b H3 =>
        if b = true then te σ2 H3 fun y H4 => ∃ acc, H4 D = some (.lst acc) ∧ acc.length < sizeLine ∧ Nx (upd H4 D (.lst (acc ++ [y]))) else Nx H3) := by
  have nD : ¬ dl d l D := hI.free hD
  refine lcL (xs := xs) (dl d l) (fun H => DealAt H d l) (fG φ H1 D) hD nD hn hI (fun H o x => x.upd nD) (fun i y H H' k ⟨t, e, h1, h2, h3, h4⟩ => ⟨t, e, h1, h2, k.get (fun q => q.elim (hI.free h1) h2) h3, h4⟩) (fun H k => ha H k.sb) (fun i x0 H acc hi x k1 hDa Q kQ => ?_) (fun ys H' hl hf hD' x k1 => ?_)
  · refine hs i x0 H hi x k1.sb Q fun b r H4 x4 k4 hb hb4 hr => kQ _ _ x4 k4.kp ⟨(b, r), rfl, k1.free (x.free hb) hb, fun e => ?_, hb4, hr⟩
    have e' : b = D := e
    rw [e', hDa] at hb
    cases hb
  · obtain ⟨ts, h1, h2, h3, h4⟩ := fG_end hD hf hD'
    exact hd ts H' (h1.trans hl) h4 h2 h3 x k1.sb
end
section
variable {P : Program} {w : World} {K : PySem.W.Frag} {mg : Str → Option Value} {base : Heap}
theorem ok_machine {f fa fo fc fm fk : Addr} {fd fda fdo fdc fdm fdk : FuncData} (A0 : Df K mg "_law_machine" s_law_machine f fd P_law_machine) (d_law_any : Df K mg "_law_any" s_law_any fa fda P_law_any) (d_law_of : Df K mg "_law_of" s_law_of fo fdo P_law_of) (d_law_mixed : Df K mg "_law_mixed" s_law_mixed fm fdm P_law_mixed)
    (d_law_columns : Df K mg "_law_columns" s_law_columns fc fdc P_law_columns) (d_law_column : Df K mg "_law_column" s_law_column fk fdk P_law_column) (T : Txt mg) : FnOk P w K mg base CX0 4 f fd P_law_machine spMachine := by
  have G_law_any : FnOk P w K mg base CX0 1 fa fda P_law_any spAny := ok_any d_law_any T
  have G_law_of : FnOk P w K mg base CX0 2 fo fdo P_law_of spOf := ok_of d_law_of d_law_any T
  have G_law_columns : FnOk P w K mg base CX0 1 fc fdc P_law_columns spColumns := ok_columns d_law_columns T
  have G_law_column : FnOk P w K mg base CX0 3 fk fdk P_law_column spColumn := ok_column d_law_column d_law_any d_law_mixed T
  refine A0.F.ok sc_law_machine (fun vs H Q E h => ?_) (fun cdv A outer s H vs Q E hr h => ?_)
  · obtain ⟨d, l, most, rfl, _⟩ := h
    rfl
  · obtain ⟨d, l, most, rfl, m0, m1, D, k⟩ := h
    refine ⟨_, (pss_cons (ps_par (i := 2) (j := 3) rfl sc_law_machine.nd rfl rfl (by decide) rfl rfl (pa_cons (pe_call G_law_any (hr.mono (by decide)) rfl d_law_any.g d_law_any.F.kp d_law_any.b .nil pass0 (pa_cons (pv 0) (pa_cons pe_int pa_nil))) (pa_cons (pe_call G_law_of (hr.mono (by decide)) rfl d_law_of.g d_law_of.F.kp d_law_of.b .nil pass0 (pa_cons (pv 0) (pa_cons (pe_lst (pa_cons pe_int (pa_cons pe_int (pa_cons pe_int (pa_cons pe_int (pa_cons pe_int pa_nil)))))) pa_nil))) pa_nil)) rfl)
    (pss_cons (ps_if (PW.pt (pw_and (pt_cmpR op_eq (pv 2) pe_int (nomark _)) (pw_and1 (pt_cmpR op_gt (pv 1) pe_int (nomark _))))) (pss_one (ps_ret (pe_tup (pa_cons pe_int (pa_cons (pe_lst (pa_cons (pe_lst (pa_cons pe_int (pa_cons pe_int pa_nil))) (pa_cons (pe_lst (pa_cons pe_int (pa_cons pe_int pa_nil))) (pa_cons (pe_lst (pa_cons pe_int (pa_cons pe_int pa_nil))) (pa_cons (pe_lst (pa_cons pe_int (pa_cons pe_int pa_nil))) pa_nil))))) pa_nil))))) pss_nil)
    (pss_cons (ps_if (PW.pt (pw_and (pt_cmpR op_eq (pv 2) pe_int (nomark _)) (pw_and1 (pt_cmpR op_gt (pv 1) pe_int (nomark _))))) (pss_cons (ps_asg (pe_tup (pa_cons (pe_call G_law_any (hr.mono (by decide)) rfl d_law_any.g d_law_any.F.kp d_law_any.b .nil pass0 (pa_cons (pv 0) (pa_cons pe_int pa_nil))) (pa_cons (pe_call G_law_of (hr.mono (by decide)) rfl d_law_of.g d_law_of.F.kp d_law_of.b .nil pass0 (pa_cons (pv 0) (pa_cons (pe_lst (pa_cons pe_int (pa_cons pe_int pa_nil))) pa_nil))) pa_nil))) (pg_tup rfl (pgs_cons (pg_name (i := 4) sc_law_machine.nd rfl (Or.inr rfl)) (pgs_cons (pg_name (i := 5) sc_law_machine.nd rfl (Or.inr rfl)) pgs_nil))))
      (pss_one (ps_ret (pe_tup (pa_cons pe_int (pa_cons (pe_lc (own := [("s", 6)]) (g := gName 6) (tt := tYes) rfl sc_law_machine.nd (pi_range1 rfl T.range (pa_cons pe_int pa_nil)) (blkOk_by (N := N_law_machine) (sc := defScope s_law_machine) (by decide +kernel)) (fun _ _ _ _ _ => (pg_name (i := 6) sc_law_machine.nd rfl (Or.inl rfl))) (fun _ _ _ _ _ => pts_nil) (fun _ _ _ _ _ => (pe_lst (pa_cons (pe_op op_add (pe_op op_mul pe_int (pe_op op_fdiv (pv 6) pe_int)) (pv 4)) (pa_cons (pe_ifExp (pt_cmpR op_eq (pe_op op_mod (pv 6) pe_int) pe_int (nomark _)) (pe_op op_mod (pe_callTy call_int1 (by rfl) T.int (by decide +kernel) (pa_cons (pe_op op_add (pv 6) (pv 5)) pa_nil)) pe_int) (pe_op op_mod (pe_callTy call_int1 (by rfl) T.int (by decide +kernel) (pa_cons (pe_op op_add (pv 6) pe_int) pa_nil)) pe_int)) pa_nil))))) pa_nil)))))) pss_nil)
    (pss_cons (ps_par (i := 7) (j := 8) rfl sc_law_machine.nd rfl rfl (by decide) rfl rfl (pa_cons (pe_op op_add pe_int (pe_call G_law_any (hr.mono (by decide)) rfl d_law_any.g d_law_any.F.kp d_law_any.b .nil pass0 (pa_cons (pv 0) (pa_cons (pv 1) pa_nil)))) (pa_cons (pe_lst pa_nil) pa_nil)) rfl)
    (pss_cons (ps_for PassesOwn.never rfl (pi_range1 rfl T.range (pa_cons (pv 3) pa_nil)) (pg_name (i := 9) sc_law_machine.nd rfl (Or.inl rfl))
      (pss_cons (ps_set (i := 10) sc_law_machine.nd rfl (Or.inl rfl) (pe_ifExp (pt_cmpR op_gt (pv 2) pe_int (nomark _)) (pe_call G_law_any (hr.mono (by decide)) rfl d_law_any.g d_law_any.F.kp d_law_any.b .nil pass0 (pa_cons (pv 0) (pa_cons pe_int pa_nil))) (pv 2)))
      (pss_one (ps_expr (pe_bm PySem.F.plainAttrs_list PySem.F.slot_list_append PySem.F.type_list_append mt_append (pv 8) (pa_cons (pe_call G_law_column (hr.mono (by decide)) rfl d_law_column.g d_law_column.F.kp d_law_column.b .nil pass0 (pa_cons (pv 0) (pa_cons (pv 10) (pa_cons (pv 7) pa_nil)))) pa_nil))))))
    (pss_one (ps_ret (pe_tup (pa_cons (pv 3) (pa_cons (pe_call G_law_columns (hr.mono (by decide)) rfl d_law_columns.g d_law_columns.F.kp d_law_columns.b .nil pass0 (pa_cons (pv 8) pa_nil)) pa_nil)))))))))), ?_⟩
    refine ⟨_, rfl, d, l, _, rfl, by decide, by decide, D, fun H1 form D1 S1 f0 f1 => ?_⟩
    refine ⟨_, rfl, by show 5 ≤ sizeLine; decide, fun q hq => ⟨d, l, q, _, rfl, upd_same, D1.free hq, by show 0 < 5; decide, by show 5 ≤ 1000; decide, D1.new hq, fun H2 i cm D2 S2 hi => ?_⟩⟩
    obtain ⟨A, rfl, A0, A3⟩ : ∃ A : Nat, cm = V.int A ∧ 0 < A ∧ A ≤ 3 := by
      match i, hi with
      | 0, hi => exact ⟨1, (Option.some.inj hi).symm, by decide, by decide⟩
      | 1, hi => exact ⟨2, (Option.some.inj hi).symm, by decide, by decide⟩
      | 2, hi => exact ⟨2, (Option.some.inj hi).symm, by decide, by decide⟩
      | 3, hi => exact ⟨2, (Option.some.inj hi).symm, by decide, by decide⟩
      | 4, hi => exact ⟨3, (Option.some.inj hi).symm, by decide, by decide⟩
      | n + 5, hi => cases hi
    have S02 : SB d l H H2 := (S1.trans (SB.new hq)).trans S2
    have fin : ∀ (H' : Hp) (t p : Addr) (A : Nat) (ts : List (Addr × List Int)), DealAt H' d l → SB d l H2 H' → H2 t = none → H' t = some (.tup [.int A, .ref p]) → NewG H2 p ts → GridAt H' p ts → 0 < A → A ≤ 3 → (ts.length : Int) ≤ most → RowsOk A ts → Q (.ref t) H' :=
      fun H' t p A ts x1 x2 x3 x4 x5 x6 x7 x8 x9 x10 => k H' t p A ts x1 (S02.trans x2) (S02.kp.free (D2.free x3) x3) x4 (x5.deal S02 D2) x6 x7 x8 x9 x10
    refine ⟨_, _, rfl, ?_⟩
    refine ⟨_, rfl, rfl, _, rfl, two_ways ?_ fun _ rest => ⟨_, rfl, _, _, rfl, rfl, _, rfl, ite2 (fun h3 => ?_) fun _ => rest⟩⟩
    rotate_left
    · -- (2, [[0, 1], [2, 3], [0, 1], [2, 3]])
      have h3' : (3 : Int) < most := of_decide_eq_true h3
      refine ⟨by show 2 ≤ sizeLine; decide, fun a1 e1 => ⟨by show 2 ≤ sizeLine; decide, fun a2 e2 => ⟨by show 2 ≤ sizeLine; decide, fun a3 e3 => ⟨by show 2 ≤ sizeLine; decide, fun a4 e4 => ⟨by show 4 ≤ sizeLine; decide, fun p ep => ⟨by show 2 ≤ sizeLine; decide, fun t et => ?_⟩⟩⟩⟩⟩⟩
      have n2 := ff e1 e2
      have n3 := ff e1 (ff e2 e3)
      have n4 := ff e1 (ff e2 (ff e3 e4))
      have np := ff e1 (ff e2 (ff e3 (ff e4 ep)))
      have nt := ff e1 (ff e2 (ff e3 (ff e4 (ff ep et))))
      refine fin _ t p 2 [(a1, [0, 1]), (a2, [2, 3]), (a3, [0, 1]), (a4, [2, 3])] ((((((D2.new e1).new e2).new e3).new e4).new ep).new et) ((((((SB.new e1).trans (SB.new e2)).trans (SB.new e3)).trans (SB.new e4)).trans (SB.new ep)).trans (SB.new et)) nt upd_same ⟨np, fun u hu => ?_⟩ ⟨nk upd_same et, fun u hu => ?_⟩ (by decide) (by decide) (by show (4 : Int) ≤ most; omega) ⟨by show 0 < 4; decide, fun u hu => ?_⟩
      · simp only [List.mem_cons, List.not_mem_nil, or_false] at hu
        rcases hu with rfl | rfl | rfl | rfl
        · exact e1
        · exact n2
        · exact n3
        · exact n4
      · simp only [List.mem_cons, List.not_mem_nil, or_false] at hu
        rcases hu with rfl | rfl | rfl | rfl
        · exact nk (nk (nk (nk (nk upd_same e2) e3) e4) ep) et
        · exact nk (nk (nk (nk upd_same e3) e4) ep) et
        · exact nk (nk (nk upd_same e4) ep) et
        · exact nk (nk upd_same ep) et
      · simp only [List.mem_cons, List.not_mem_nil, or_false] at hu
        rcases hu with rfl | rfl | rfl | rfl <;> exact ⟨rfl, fun z hz => by simp only [List.mem_cons, List.not_mem_nil, or_false] at hz; rcases hz with rfl | rfl <;> exact ⟨by decide, by show _ < ((4 : Nat) : Int); decide⟩⟩
    refine ⟨_, rfl, rfl, _, rfl, two_ways ?_ fun _ rest => ⟨_, rfl, _, _, rfl, rfl, _, rfl, ite2 (fun h3 => ?_) fun _ => rest⟩⟩
    rotate_left
    · have h3' : (3 : Int) < most := of_decide_eq_true h3
      refine ⟨_, rfl, d, l, _, rfl, by decide, by decide, D2, fun H3 one D3 S3 o0 o1 => ?_⟩
      refine ⟨_, rfl, by show 2 ≤ sizeLine; decide, fun q2 hq2 => ⟨d, l, q2, _, rfl, upd_same, D3.free hq2, by show 0 < 2; decide, by show 2 ≤ 1000; decide, D3.new hq2, fun H4 i2 ov D4 S4 hi2 => ?_⟩⟩
      obtain ⟨other, rfl⟩ : ∃ other : Int, ov = V.int other := by
        match i2, hi2 with
        | 0, hi => exact ⟨1, (Option.some.inj hi).symm⟩
        | 1, hi => exact ⟨3, (Option.some.inj hi).symm⟩
        | n + 2, hi => cases hi
      refine ⟨by show 2 ≤ sizeLine; decide, fun t0 ht0 => ⟨t0, _, rfl, SqT.of upd_same, rfl, _, _, rfl, _, _, rfl, rfl, ?_⟩⟩
      have D5 := D4.new (o := HO.tup [V.int one, V.int other]) ht0
      have S25 : SB d l H2 _ := ((S3.trans (SB.new hq2)).trans S4).trans (SB.new (o := HO.tup [V.int one, V.int other]) ht0)
      refine ⟨_, rfl, by decide, by decide, fun p ep => lcGR (n := 4) (fun _ r => r.length = 2 ∧ ∀ z ∈ r, 0 ≤ z ∧ z < (4 : Int)) ep D5 (by decide) (fun i H6 hi x6 _ Q6 kQ => ?_) (fun ts H' hl hz hN hG x k1 => ?_)⟩
      · have i4 : (0 : Int) + (i : Int) < 4 := by omega
        have fin6 : ∀ z1 z2 : Int, (0 ≤ z1 ∧ z1 < 4) → (0 ≤ z2 ∧ z2 < 4) → ∀ a, H6 a = none → Q6 (.ref a) (upd H6 a (.lst [.int z1, .int z2])) := fun z1 z2 b1 b2 a ha => by
          refine kQ a [z1, z2] _ (x6.new ha) (SB.new ha) ha upd_same ⟨rfl, fun z hz => ?_⟩
          simp only [List.mem_cons, List.not_mem_nil, or_false] at hz
          rcases hz with rfl | rfl
          · exact b1
          · exact b2
        refine ⟨_, rfl, _, _, rfl, rfl, ⟨by decide, by decide⟩, _, _, rfl, rfl, .inl ⟨by decide, by decide⟩, _, rfl, _, _, rfl, rfl, ?_⟩
        refine ⟨_, rfl, _, _, rfl, rfl, (by show (0 : Int) < 2; decide), rfl, _, rfl, ite2 (fun _ => ?_) (fun _ => ?_)⟩
        · exact ⟨_, rfl, _, rfl, _, _, rfl, rfl, .inl ⟨_, rfl, _, _, rfl, rfl, (by show (0 : Int) < 4; decide), by show 2 ≤ sizeLine; decide, fin6 _ _ ⟨by omega, by omega⟩ ⟨Int.emod_nonneg _ (by decide), Int.emod_lt_of_pos _ (by decide)⟩⟩⟩
        · exact ⟨_, rfl, _, _, rfl, rfl, .inl ⟨_, rfl, _, _, rfl, rfl, (by show (0 : Int) < 4; decide), by show 2 ≤ sizeLine; decide, fin6 _ _ ⟨by omega, by omega⟩ ⟨Int.emod_nonneg _ (by decide), Int.emod_lt_of_pos _ (by decide)⟩⟩⟩
      · refine ⟨by show 2 ≤ sizeLine; decide, fun t et => ?_⟩
        have nt : ¬ dl d l t := x.free et
        have D4f := D4
        refine fin _ t p 2 ts (x.new et) ((S25.trans k1).trans (SB.new et)) ?_ upd_same ?_ (hG.new et) (by decide) (by decide) (by omega) ⟨by omega, fun u hu => ?_⟩
        · exact (S25.trans k1).kp.free nt et
        · exact hN.deal S25 D5
        · obtain ⟨i, hi⟩ := List.getElem?_of_mem hu
          have := hz i u hi
          rw [hl]
          exact this
    · -- many columns
      refine ⟨_, rfl, _, rfl, d, l, _, rfl, m0, by omega, D2, fun H3 ma D3 S3 ma0 ma1 => ?_⟩
      have S23 : SB d l H2 H3 := S3
      refine ⟨_, _, rfl, rfl, ?_⟩
      refine ⟨Nat.zero_le _, fun c hc => ⟨_, _, rfl, ?_⟩⟩
      obtain ⟨many, em, q0, q1⟩ : ∃ many : Nat, (1 + ma : Int) = (many : Int) ∧ 0 < many ∧ (many : Int) ≤ most := ⟨(1 + ma).toNat, by omega, by omega, by omega⟩
      have c0 : H2 c = none := S3.kp.free (D3.free hc) hc
      refine ⟨_, rfl, (A : Int), rfl, by omega, by omega, ?_⟩
      rw [show ((A : Int)).toNat = A by omega]
      refine for_range (fun i σ H4 => ∃ (v9 v10 : Option V) (ts : List (Addr × List Int)), σ = [some (.ref d), some (.int most), some (.int form), some (.int (A : Int)), none, none, none, some (.int (1 + ma)), some (.ref c), v9, v10] ∧ DealAt H4 d l ∧ SB d l H2 H4 ∧ GridAt H4 c ts ∧ (∀ t ∈ ts, H2 t.1 = none ∧ t.1 ≠ c) ∧ ts.length = i ∧ ∀ t ∈ ts, t.2.length = many ∧ ∀ z ∈ t.2, 0 ≤ z ∧ z < (many : Int))
        ⟨none, none, [], rfl, D3.new hc, S3.trans (SB.new hc), ⟨upd_same, fun t ht => nomatch ht⟩, (fun t ht => nomatch ht), rfl, (fun t ht => nomatch ht)⟩ ?_ ?_
      · rintro i σ H4 hi ⟨v9, v10, ts, rfl, D4, S4, G4, N4, hl4, R4⟩
        have nc : ¬ dl d l c := D2.free c0
        have nts : ∀ t ∈ ts, ¬ dl d l t.1 := fun t ht => D2.free (N4 t ht).1
        have body : ∀ (H5 : Hp) (kind : Int), DealAt H5 d l → SB d l H4 H5 → (tDrop (tBM K "list" rAppend (tVar 8) (tCons (tCall spColumn [] E0 (tCons (tVar 0) (tCons (tVar 10) (tCons (tVar 7) tNil)))) tNil)))
            { nx := fun σ H4 => ∃ (v9 v10 : Option V) (ts : List (Addr × List Int)), σ = [some (.ref d), some (.int most), some (.int form), some (.int (A : Int)), none, none, none, some (.int (1 + ma)), some (.ref c), v9, v10] ∧ DealAt H4 d l ∧ SB d l H2 H4 ∧ GridAt H4 c ts ∧ (∀ t ∈ ts, H2 t.1 = none ∧ t.1 ≠ c) ∧ ts.length = i + 1 ∧ ∀ t ∈ ts, t.2.length = many ∧ ∀ z ∈ t.2, 0 ≤ z ∧ z < (many : Int),
              rt := Q } [some (.ref d), some (.int most), some (.int form), some (.int (A : Int)), none, none, none, some (.int (1 + ma)), some (.ref c), some (.int (0 + (i : Int))), some (.int kind)] H5 := by
          intro H5 kind D5 S5
          have G5 : GridAt H5 c ts := G4.kp S5.kp nc nts
          refine ⟨_, rfl, .inl ⟨rfl, _, SqL.of G5.top⟩, _, rfl, _, rfl, _, rfl, d, l, kind, 1 + ma, rfl, by omega, by omega, D5, fun H6 p ns D6 S6 hp6 hp6' hn6 hr6 => ?_⟩
          have G6 : GridAt H6 c ts := G5.kp S6.kp nc nts
          have S26 := (S4.trans S5).trans S6
          have np : H2 p = none := (S4.trans S5).kp.free (D5.free hp6) hp6
          have npc : p ≠ c := fun e => by
            rw [e, G5.top] at hp6
            cases hp6
          refine ⟨c, _, _, rfl, rfl, G6.top, ?_, _, _, ts ++ [(p, ns)], rfl, D6.upd nc, (S26.kp.mut c0).sb, G6.snoc hp6' npc fun t ht => (N4 t ht).2, fun t ht => ?_, by rw [List.length_append, hl4]; rfl, fun t ht => ?_⟩
          · rw [List.length_map]
            exact Nat.lt_of_le_of_lt (by omega : _ ≤ 1000) (by decide)
          · rcases List.mem_append.mp ht with h | h
            · exact N4 t h
            · rw [List.mem_singleton.mp h]
              exact ⟨np, npc⟩
          · rcases List.mem_append.mp ht with h | h
            · exact R4 t h
            · rw [List.mem_singleton.mp h]
              refine ⟨by show ns.length = many; omega, fun z hz => ?_⟩
              have := hr6 z hz
              omega
        refine ⟨_, rfl, _, _, rfl, rfl, _, rfl, ite2 (fun _ => ?_) (fun _ => ?_)⟩
        · exact ⟨_, rfl, d, l, _, rfl, by decide, by decide, D4, fun H5 kind D5 S5 _ _ => body H5 kind D5 S5⟩
        · exact ⟨_, rfl, body H4 form D4 (SB.refl _ _ _)⟩
      · rintro σ H4 ⟨v9, v10, ts, rfl, D4, S4, G4, N4, hl4, R4⟩
        refine ⟨_, rfl, _, rfl, c, ts, many, rfl, G4, by omega, by omega, by omega, fun t ht => (R4 t ht).1, fun H5 p us S5 N5 G5 hl5 R5 => ⟨by show 2 ≤ sizeLine; decide, fun t ht => ?_⟩⟩
        have S45 : SB d l H4 H5 := (KP.same (S := dl d l) S5).sb
        have D5 : DealAt H5 d l := by
          obtain ⟨bs, b, y⟩ := D4
          exact ⟨bs, b, S5 _ _ y.hd, S5 _ _ y.hl, y.pos, y.len, y.b0, y.b1⟩
        refine fin _ t p A us (D5.new ht) ((S4.trans S45).trans (SB.new ht)) ((S4.trans S45).kp.free (D5.free ht) ht) upd_same (N5.deal S4 D4) (G5.new ht) A0 A3 (by omega) ⟨by omega, fun u hu => ?_⟩
        have hu5 := R5 u hu
        refine ⟨by omega, fun z hz => ?_⟩
        obtain ⟨t, ht, hz'⟩ := hu5.2 z hz
        have := (R4 t ht).2 z hz'
        omega
end
end Lk

set_option Elab.async false
set_option maxRecDepth 100000
set_option maxHeartbeats 1000000
namespace Lk
open PySem L2
abbrev s_law_draw : Stmt := top 28
abbrev N_law_draw : List Str := ["script", "salt", "cells", "cell", "blend"]
abbrev P_law_draw : List Str := ["script", "salt"]
theorem sc_law_draw : FnScope N_law_draw P_law_draw (defScope s_law_draw) := ⟨rfl, rfl, rfl, by decide +kernel, rfl, by decide +kernel, by decide +kernel⟩
/-- a deal is made of the script -/
def spDraw (K : PySem.W.Frag) : Sp := fun vs H Q _ => ∃ (a : Addr) (ns : List Int) (salt : Int), vs = [.ref a, .int salt] ∧ SqL K H a (ns.map V.int) ∧ ns.length ≤ 63 ∧ 0 ≤ salt ∧ salt ≤ 1000 ∧
  ∀ (H' : Hp) (d l : Addr), DealAt H' d l → Same H H' → H d = none → H l = none → Q (.ref d) H'
/-- a drawn machine, with up to five commands -/
def spWide : Sp := fun vs H Q _ => ∃ (d l : Addr) (most : Int), vs = [.ref d, .int most] ∧ 0 < most ∧ most ≤ 100 ∧ DealAt H d l ∧
  ∀ (H' : Hp) (t p : Addr) (A : Nat) (ts : List (Addr × List Int)), DealAt H' d l → SB d l H H' → H t = none → H' t = some (.tup [.int A, .ref p]) → NewG H p ts → GridAt H' p ts → 0 < A → A ≤ 5 → (ts.length : Int) ≤ most → RowsOk A ts → Q (.ref t) H'
theorem cut_ints (ns : List Int) (lo hi : Option Int) : ∃ ms : List Int, cutV (ns.map V.int) lo hi = ms.map V.int ∧ ms.length ≤ ns.length := by
  refine ⟨(ns.drop (HT.sIx (ns.map V.int).length 0 lo)).take (HT.sIx (ns.map V.int).length (ns.map V.int).length hi - HT.sIx (ns.map V.int).length 0 lo), ?_, ?_⟩
  · unfold cutV
    rw [← List.map_drop, ← List.map_take]
  · rw [List.length_take, List.length_drop]
    omega
theorem cut48 (ns : List Int) : ∃ ms : List Int, cutV (ns.map V.int) none (some 48) = ms.map V.int ∧ ms.length ≤ 48 := by
  refine ⟨(ns.drop (HT.sIx (ns.map V.int).length 0 none)).take (HT.sIx (ns.map V.int).length (ns.map V.int).length (some 48) - HT.sIx (ns.map V.int).length 0 none), ?_, ?_⟩
  · unfold cutV
    rw [← List.map_drop, ← List.map_take]
  · rw [List.length_take]
    have e : HT.sIx (ns.map V.int).length (ns.map V.int).length (some 48) ≤ 48 := by
      show (if (48 : Int) < 0 then ((48 : Int) + (((ns.map V.int).length : Nat) : Int)).toNat else min (48 : Int).toNat (ns.map V.int).length) ≤ 48
      rw [if_neg (by decide)]
      exact Nat.min_le_left _ _
    omega
section
variable {P : Program} {w : World} {K : PySem.W.Frag} {mg : Str → Option Value} {base : Heap}
theorem ok_draw {f : Addr} {fd : FuncData} (A0 : Df K mg "_law_draw" s_law_draw f fd P_law_draw) (T : Txt mg) : FnOk P w K mg base CX0 1 f fd P_law_draw (spDraw K) := by
  refine A0.F.ok sc_law_draw (fun vs H Q E h => ?_) (fun cdv A outer s H vs Q E hr h => ?_)
  · obtain ⟨a, ns, salt, rfl, _⟩ := h
    rfl
  · obtain ⟨a, ns, salt, rfl, hS, hl, s0, s1, k⟩ := h
    refine ⟨_, (pss_cons (ps_setLc (i := 2) (own := [("cell", 3)]) (g := gName 3) (tt := tYes) rfl sc_law_draw.nd rfl rfl (sw_true rfl rfl rfl (by decide +kernel)) (pi_list (pe_slice sl_list (pv 0) po_none (po_some pe_int))) (blkOk_by (N := N_law_draw) (sc := defScope s_law_draw) (by decide +kernel)) (fun _ _ _ _ _ => (pg_name (i := 3) sc_law_draw.nd rfl (Or.inl rfl))) (fun _ _ _ _ _ => pts_nil) (fun _ _ _ _ _ => (pe_callB call_abs (by rfl) T.abs (by decide +kernel) (pa_cons (pe_callTy call_int1 (by rfl) T.int (by decide +kernel) (pa_cons (pv 3) pa_nil)) pa_nil))))
    (pss_cons (ps_set (i := 4) sc_law_draw.nd rfl (Or.inl rfl) (pe_op op_add pe_int (pe_op op_mul pe_int (pv 1))))
    (pss_cons (ps_for PassesOwn.never rfl (pi_list (pv 2)) (pg_name (i := 3) sc_law_draw.nd rfl (Or.inl rfl))
      (pss_one (ps_set (i := 4) sc_law_draw.nd rfl (Or.inl rfl) (pe_op op_mod (pe_callTy call_int1 (by rfl) T.int (by decide +kernel) (pa_cons (pe_op op_add (pe_op op_add (pe_op op_mul (pv 4) pe_int) (pe_op op_mod (pv 3) pe_int)) pe_int) pa_nil)) pe_int))))
    (pss_one (ps_ret (pe_lst (pa_cons (pe_revL (pe_lc (own := [("cell", 3)]) (g := gName 3) rfl sc_law_draw.nd (pi_list (pv 2)) (blkOk_by (N := N_law_draw) (sc := defScope s_law_draw) (by decide +kernel)) (fun _ _ _ _ _ => (pg_name (i := 3) sc_law_draw.nd rfl (Or.inl rfl))) (fun _ _ _ _ _ => (pts_one (pt_cmpR op_ge (pv 3) (pe_op op_pow pe_int pe_int) (nomark _)))) (fun _ _ _ _ _ => (pv 3)))) (pa_cons (pv 4) pa_nil)))))))), ?_⟩
    obtain ⟨ms, em, hm⟩ := cut48 ns
    refine ⟨_, rfl, _, rfl, a, _, rfl, hS, fun p hp => ⟨p, rfl, ⟨_, SqL.of upd_same⟩, fun D hD => ?_⟩⟩
    rw [em] at hD ⊢
    have hpD : ∀ {o}, upd (upd H p (HO.lst (ms.map V.int))) D o p = some (.lst (ms.map V.int)) := nk upd_same hD
    refine lcL (xs := ms.map V.int) (fun _ => False) (fun _ => True) (fun _ y _ => ∃ z : Int, y = V.int z ∧ 0 ≤ z) hD id (by rw [List.length_map]; omega) trivial (fun _ _ _ => trivial) (fun _ _ _ _ _ x => x) (fun H2 kp => SqL.of (kp.get id upd_same)) (fun j x H2 acc hj _ k2 _ Q2 kQ => ?_) (fun ys H2 hl2 hf hD2 _ k2 => ?_)
    · obtain ⟨z, rfl⟩ : ∃ z, x = V.int z := by
        obtain ⟨z, _, e⟩ := List.mem_map.mp (mem_of_get hj)
        exact ⟨z, e.symm⟩
      exact ⟨_, rfl, .inl ⟨_, rfl, _, rfl, kQ _ _ trivial (KP.refl _ _) ⟨_, rfl, by split <;> omega⟩⟩⟩
    obtain ⟨cs, rfl, hc⟩ := collect (g := V.int) hf
    have hcs : cs.length ≤ 48 := by
      rw [List.length_map, List.length_map] at hl2
      omega
    have c0 : ∀ z ∈ cs, 0 ≤ z := all_of_get hc
    have S2 : Same H H2 := ((KP.new (S := fun _ => False) hp).trans k2).toSame
    have nD : H D = none := ff hp hD
    refine ⟨_, rfl, _, _, rfl, rfl, .inl ⟨by decide, by decide⟩, _, _, rfl, rfl, ?_⟩
    refine ⟨_, rfl, D, rfl, ⟨_, SqL.of hD2⟩, for_list (K := K) (a := D) (xs := cs.map V.int) (fun i σ H3 => H3 = H2 ∧ ∃ (b : Int) (v : Option V), σ = [some (.ref a), some (.int salt), some (.ref D), v, some (.int b)] ∧ 0 ≤ b ∧ b < 2147483647) ⟨rfl, _, none, rfl, by omega, by omega⟩ (fun i σ H3 _ x => by rw [x.1]; exact SqL.of hD2) ?_ ?_⟩
    · rintro i x σ H3 hi ⟨rfl, b, v, rfl, b0, b1⟩
      obtain ⟨z, rfl⟩ : ∃ z, x = V.int z := by
        obtain ⟨z, _, e⟩ := List.mem_map.mp (mem_of_get hi)
        exact ⟨z, e.symm⟩
      refine ⟨_, rfl, _, _, rfl, rfl, .inr ⟨by decide, by decide⟩, _, rfl, _, _, rfl, rfl, (by show (0 : Int) < 2147483549; decide), _, _, rfl, rfl, _, _, rfl, rfl, .inl ⟨_, rfl, _, _, rfl, rfl, (by show (0 : Int) < 2147483647; decide), ?_⟩⟩
      exact ⟨rfl, _, _, rfl, Int.emod_nonneg _ (by decide), Int.emod_lt_of_pos _ (by decide)⟩
    · rintro σ H3 ⟨rfl, b, v, rfl, b0, b1⟩
      refine ⟨_, rfl, D, rfl, ⟨_, SqL.of hD2⟩, fun q hq => ?_⟩
      refine lc_list (xs := cs.map V.int) (fun i H4 => Same H3 H4 ∧ ∃ gs : List Int, H4 q = some (.lst (gs.map V.int)) ∧ gs.length ≤ i ∧ ∀ z ∈ gs, 0 ≤ z) ⟨(KP.new (S := fun _ => False) hq).toSame, [], upd_same, Nat.le_refl _, fun z hz => nomatch hz⟩ (fun i H4 _ x => SqL.of (x.1 _ _ hD2)) (fun i x H4 hi x4 => ?_) (fun H4 x4 => ?_)
      · obtain ⟨z, hz, rfl⟩ := List.mem_map.mp (mem_of_get hi)
        obtain ⟨S4, gs, e4, l4, p4⟩ := x4
        have hi48 : i < 48 := by
          have := (List.getElem?_eq_some_iff.mp hi).1
          rw [List.length_map] at this
          omega
        refine ⟨wipe1 _ _ _, _, rfl, _, _, rfl, rfl, ⟨by decide, by decide, by decide⟩, _, _, rfl, rfl, _, rfl, ite2 (fun _ => ?_) (fun _ => ⟨S4, gs, e4, by omega, p4⟩)⟩
        refine ⟨_, rfl, _, e4, ?_, ?_, gs ++ [z], ?_, ?_, ?_⟩
        · rw [List.length_map]
          exact Nat.lt_of_le_of_lt (by omega : _ ≤ 48) (by decide)
        · exact ((KP.same (S := fun _ => False) S4).mut hq).toSame
        · rw [upd_same, List.map_append]
          rfl
        · rw [List.length_append]
          simp only [List.length_cons, List.length_nil]
          omega
        · intro y hy
          rcases List.mem_append.mp hy with h | h
          · exact p4 y h
          · rw [List.mem_singleton.mp h]
            exact c0 z hz
      · obtain ⟨S4, gs, e4, l4, p4⟩ := x4
        rw [List.length_map] at l4
        refine ⟨q, _, rfl, SqL.of e4, fun l hl => ⟨_, rfl, by show 2 ≤ sizeLine; decide, fun d hd => ?_⟩⟩
        rw [← List.map_reverse] at hd ⊢
        have nl : H l = none := (S2.trans S4).free hl
        refine k _ d l ⟨gs.reverse, b, ⟨upd_same, nk upd_same hd, fun y hy => p4 y (List.mem_reverse.mp hy), by rw [List.length_reverse]; omega, b0, b1⟩⟩ ?_ ((S2.trans S4).free (ff hl hd)) nl
        exact (((KP.same (S := fun _ => False) (S2.trans S4)).trans (KP.new hl)).trans (KP.new hd)).toSame
end
end Lk

set_option Elab.async false
set_option maxRecDepth 100000
set_option maxHeartbeats 1000000
namespace Lk
open PySem L2
def rLs (K : PySem.W.Frag) : List V → Hp → VK → Prop := fun xs H Q => ∃ p ys, xs = [.ref p] ∧ (SqL K H p ys ∨ SqT K H p ys) ∧ ∀ l, H l = none → Q (.ref l) (upd H l (.lst ys))
def rLn (K : PySem.W.Frag) : List V → Hp → VK → Prop := fun xs H Q => ∃ p ys, xs = [.ref p] ∧ (SqL K H p ys ∨ SqT K H p ys) ∧ Q (.int ys.length) H
theorem cases_list {α : Type} {xs : List α} {i : Nat} {x : α} (h : xs[i]? = some x) : i < xs.length := (List.getElem?_eq_some_iff.mp h).1
theorem grid_get {ts : List (Addr × List Int)} {i : Nat} {x : V} (h : (ts.map fun t => V.ref t.1)[i]? = some x) : ∃ t ∈ ts, x = V.ref t.1 := by
  obtain ⟨t, ht, e⟩ := List.mem_map.mp (mem_of_get h)
  exact ⟨t, ht, e.symm⟩
section
variable {P : Program} {w : World} {K : PySem.W.Frag} {mg : Str → Option Value} {base : Heap}
end
end Lk

set_option Elab.async false
set_option maxRecDepth 100000
set_option maxHeartbeats 1000000
namespace Lk
open PySem L2
theorem take_next {α : Type} : ∀ {xs : List α} {i : Nat} {x : α}, xs[i]? = some x → xs.take (i + 1) = xs.take i ++ [x]
  | [], _, _, h => by simp at h
  | y :: xs, 0, x, h => by
    have e : y = x := Option.some.inj h
    rw [e]
    rfl
  | y :: xs, i + 1, x, h => by
    show y :: xs.take (i + 1) = y :: (xs.take i ++ [x])
    rw [take_next (xs := xs) (i := i) h]
theorem sameT {K : PySem.W.Frag} {H H' : Hp} {a : Addr} {xs : List V} (e : Same H H') (h : SqT K H a xs) : SqT K H' a xs := by
  rcases h with (h | ⟨o, h⟩) | h
  · exact .inl (.inl (e _ _ h))
  · exact .inl (.inr ⟨o, e _ _ h⟩)
  · exact .inr h
section
variable {K : PySem.W.Frag} {j : Nat} {te : TE} {σ : St} {H1 : Hp} {D : Addr} {Qd : Hp → Prop}

theorem lcPL {a : Addr} {xs : List V} (F : V → V) (hD : H1 D = none) (hn : xs.length ≤ 1000000) (ha : SqL K H1 a xs)
    (hs : ∀ x ∈ xs, ∀ H, Same H1 H → ∀ Q : VK, (∀ H4, Same H H4 → Q (F x) H4) → te ((wipe σ [j]).set j (some x)) H Q)
    (hd : ∀ H', H' D = some (.lst (xs.map F)) → Same H1 H' → Qd H') :
    ∃ W : Nat → Nat → Hp → Prop, (∃ m, W 0 m (upd H1 D (.lst []))) ∧ ∀ i m H, W i m H →
      ((Itl K a).stop i H ∧ Qd H) ∨ ((Itl K a).go i H ∧ ∃ Nx : Hp → Prop, (∀ H', Nx H' → ∃ m', m' < m ∧ W (i + 1) m' H') ∧ ∀ x H', (Itl K a).yld i H x H' → gName j x (wipe σ [j]) H' fun σ2 H2 => wipe σ2 [j] = wipe σ [j] ∧ tYes σ2 H2 fun b H3 =>
        if b = true then te σ2 H3 fun y H4 => ∃ acc, H4 D = some (.lst acc) ∧ acc.length < sizeLine ∧ Nx (upd H4 D (.lst (acc ++ [y]))) else Nx H3) := by
  refine lc_list (xs := xs) (fun i H => Same H1 H ∧ H D = some (.lst ((xs.take i).map F))) ⟨(KP.new (S := fun _ => False) hD).toSame, upd_same⟩ (fun i H _ x => Same.seq x.1 ha) (fun i x0 H hi x => ?_) (fun H x => ?_)
  · refine ⟨wipe1 _ _ _, iteT (B := Same H1 H ∧ H D = some (.lst ((xs.take (i + 1)).map F))) ?_⟩
    refine hs x0 (mem_of_get hi) H x.1 _ fun H4 S4 => ⟨_, S4 _ _ x.2, ?_, ((KP.same (S := fun _ => False) (x.1.trans S4)).mut hD).toSame, ?_⟩
    · rw [List.length_map, List.length_take]
      exact Nat.lt_of_le_of_lt (Nat.le_trans (Nat.min_le_right _ _) hn) (by decide)
    · rw [upd_same, take_next hi, List.map_append]
      rfl
  · have e := x.2
    rw [List.take_length] at e
    exact hd H e x.1

theorem lcPT {a : Addr} {xs : List V} (F : V → V) (hD : H1 D = none) (hn : xs.length ≤ 1000000) (ha : SqT K H1 a xs)
    (hs : ∀ x ∈ xs, ∀ H, Same H1 H → ∀ Q : VK, (∀ H4, Same H H4 → Q (F x) H4) → te ((wipe σ [j]).set j (some x)) H Q)
    (hd : ∀ H', H' D = some (.lst (xs.map F)) → Same H1 H' → Qd H') :
    ∃ W : Nat → Nat → Hp → Prop, (∃ m, W 0 m (upd H1 D (.lst []))) ∧ ∀ i m H, W i m H →
      ((Itt K a).stop i H ∧ Qd H) ∨ ((Itt K a).go i H ∧ ∃ Nx : Hp → Prop, (∀ H', Nx H' → ∃ m', m' < m ∧ W (i + 1) m' H') ∧ ∀ x H', (Itt K a).yld i H x H' → gName j x (wipe σ [j]) H' fun σ2 H2 => wipe σ2 [j] = wipe σ [j] ∧ tYes σ2 H2 fun b H3 =>
        if b = true then te σ2 H3 fun y H4 => ∃ acc, H4 D = some (.lst acc) ∧ acc.length < sizeLine ∧ Nx (upd H4 D (.lst (acc ++ [y]))) else Nx H3) := by
  refine lc_tup (xs := xs) (fun i H => Same H1 H ∧ H D = some (.lst ((xs.take i).map F))) ⟨(KP.new (S := fun _ => False) hD).toSame, upd_same⟩ (fun i H _ x => sameT x.1 ha) (fun i x0 H hi x => ?_) (fun H x => ?_)
  · refine ⟨wipe1 _ _ _, iteT (B := Same H1 H ∧ H D = some (.lst ((xs.take (i + 1)).map F))) ?_⟩
    refine hs x0 (mem_of_get hi) H x.1 _ fun H4 S4 => ⟨_, S4 _ _ x.2, ?_, ((KP.same (S := fun _ => False) (x.1.trans S4)).mut hD).toSame, ?_⟩
    · rw [List.length_map, List.length_take]
      exact Nat.lt_of_le_of_lt (Nat.le_trans (Nat.min_le_right _ _) hn) (by decide)
    · rw [upd_same, take_next hi, List.map_append]
      rfl
  · have e := x.2
    rw [List.take_length] at e
    exact hd H e x.1

theorem lcPR {n : Nat} (F : Nat → V) (hD : H1 D = none) (hn : n ≤ 1000000)
    (hs : ∀ i, i < n → ∀ H, Same H1 H → ∀ Q : VK, (∀ H4, Same H H4 → Q (F i) H4) → te ((wipe σ [j]).set j (some (.int (0 + i)))) H Q)
    (hd : ∀ H', H' D = some (.lst ((List.range n).map F)) → Same H1 H' → Qd H') :
    ∃ W : Nat → Nat → Hp → Prop, (∃ m, W 0 m (upd H1 D (.lst []))) ∧ ∀ i m H, W i m H →
      ((Itr 0 n).stop i H ∧ Qd H) ∨ ((Itr 0 n).go i H ∧ ∃ Nx : Hp → Prop, (∀ H', Nx H' → ∃ m', m' < m ∧ W (i + 1) m' H') ∧ ∀ x H', (Itr 0 n).yld i H x H' → gName j x (wipe σ [j]) H' fun σ2 H2 => wipe σ2 [j] = wipe σ [j] ∧ tYes σ2 H2 fun b H3 =>
        if b = true then te σ2 H3 fun y H4 => ∃ acc, H4 D = some (.lst acc) ∧ acc.length < sizeLine ∧ Nx (upd H4 D (.lst (acc ++ [y]))) else Nx H3) := by
  refine lc_range (fun i H => Same H1 H ∧ H D = some (.lst ((List.range i).map F))) ⟨(KP.new (S := fun _ => False) hD).toSame, upd_same⟩ (fun i H hi x => ?_) (fun H x => hd H x.2 x.1)
  refine ⟨wipe1 _ _ _, iteT (B := Same H1 H ∧ H D = some (.lst ((List.range (i + 1)).map F))) ?_⟩
  refine hs i hi H x.1 _ fun H4 S4 => ⟨_, S4 _ _ x.2, ?_, ((KP.same (S := fun _ => False) (x.1.trans S4)).mut hD).toSame, ?_⟩
  · rw [List.length_map, List.length_range]
    exact Nat.lt_of_le_of_lt (Nat.le_trans (Nat.le_of_lt hi) hn) (by decide)
  · rw [upd_same, List.range_succ, List.map_append]
    rfl
end
/-! ### the law's own walks, as functions -/
def stp (rs : List (List Int)) (s c : Int) : Int := (rs.getD s.toNat []).getD c.toNat 0
def led (rs : List (List Int)) (s : Int) (ns : List Int) : Int := ns.foldl (stp rs) s
def effs (rs : List (List Int)) (ns : List Int) : List Int := (List.range rs.length).map fun (s : Nat) => led rs (s : Int) ns
def comp (f g : List Int) : List Int := f.map fun s => g.getD s.toNat 0
def powG : Nat → Nat → List Int → List Int → List Int
  | 0, _, _, found => found
  | k + 1, t, one, found => if t = 0 then found else powG k (t / 2) (comp one one) (if t % 2 = 1 then comp found one else found)
/-- a machine's rows: states are below their number, commands below A -/
structure Rs (A : Nat) (rs : List (List Int)) : Prop where
  pos : 0 < rs.length
  row : ∀ r ∈ rs, r.length = A ∧ ∀ z ∈ r, 0 ≤ z ∧ z < (rs.length : Int)
theorem RowsOk.rs {A : Nat} {ts : List (Addr × List Int)} (x : RowsOk A ts) : Rs A (ts.map (·.2)) := by
  refine ⟨by rw [List.length_map]; exact x.pos, fun r hr => ?_⟩
  obtain ⟨t, ht, rfl⟩ := List.mem_map.mp hr
  rw [List.length_map]
  exact x.row t ht
theorem getD_of {α : Type} {xs : List α} {i : Nat} {d x : α} (h : xs[i]? = some x) : xs.getD i d = x := by
  rw [List.getD_eq_getElem?_getD, h] <;> rfl
/-- an index below, as an item -/
theorem item_of {α : Type} {xs : List α} {s : Int} (h0 : 0 ≤ s) (h1 : s < (xs.length : Int)) (d : α) : xs[s.toNat]? = some (xs.getD s.toNat d) := by
  have h : s.toNat < xs.length := by omega
  rw [List.getElem?_eq_getElem h, getD_of (List.getElem?_eq_getElem h)]
theorem Rs.stp {A : Nat} {rs : List (List Int)} (x : Rs A rs) {s c : Int} (s0 : 0 ≤ s) (s1 : s < rs.length) (c0 : 0 ≤ c) (c1 : c < A) : 0 ≤ Lk.stp rs s c ∧ Lk.stp rs s c < (rs.length : Int) := by
  have hm := mem_of_get (item_of s0 s1 ([] : List Int))
  obtain ⟨h1, h2⟩ := x.row _ hm
  exact h2 _ (mem_of_get (item_of c0 (by rw [h1]; exact c1) (0 : Int)))
theorem Rs.led {A : Nat} {rs : List (List Int)} (x : Rs A rs) : ∀ {ns : List Int} {s : Int}, 0 ≤ s → s < rs.length → (∀ c ∈ ns, 0 ≤ c ∧ c < (A : Int)) → 0 ≤ Lk.led rs s ns ∧ Lk.led rs s ns < (rs.length : Int)
  | [], s, h0, h1, _ => ⟨h0, h1⟩
  | c :: ns, s, h0, h1, h => by
    obtain ⟨c0, c1⟩ := h c List.mem_cons_self
    obtain ⟨q0, q1⟩ := x.stp h0 h1 c0 c1
    exact x.led (ns := ns) q0 q1 fun z hz => h z (List.mem_cons_of_mem _ hz)
end Lk

set_option Elab.async false
set_option maxRecDepth 100000
set_option maxHeartbeats 1000000
namespace Lk
open PySem L2
abbrev s_law_led : Stmt := top 36
abbrev N_law_led : List Str := ["steps", "state", "row", "command"]
abbrev P_law_led : List Str := ["steps", "state", "row"]
theorem sc_law_led : FnScope N_law_led P_law_led (defScope s_law_led) := ⟨rfl, rfl, rfl, by decide +kernel, rfl, by decide +kernel, by decide +kernel⟩
/-- a drawn row -/
def spRow : Sp := fun vs H Q _ => ∃ (d l : Addr) (A n : Int), vs = [.ref d, .int A, .int n] ∧ 0 < A ∧ A ≤ 1000 ∧ 0 ≤ n ∧ n ≤ 1000 ∧ DealAt H d l ∧
  ∀ (H' : Hp) (p : Addr) (ns : List Int), DealAt H' d l → SB d l H H' → H p = none → H' p = some (.tup (ns.map V.int)) → (ns.length : Int) = n → (∀ z ∈ ns, 0 ≤ z ∧ z < A) → Q (.ref p) H'
def rsOf (ts : List (Addr × List Int)) : List (List Int) := ts.map (·.2)
def spLed (K : PySem.W.Frag) : Sp := fun vs H Q _ => ∃ (a p : Addr) (s : Int) (A : Nat) (ts : List (Addr × List Int)) (ns : List Int), vs = [.ref a, .int s, .ref p] ∧ GridAt H a ts ∧ RowsOk A ts ∧ 0 ≤ s ∧ s < ts.length ∧ SqT K H p (ns.map V.int) ∧ (∀ c ∈ ns, 0 ≤ c ∧ c < (A : Int)) ∧
  Q (.int (led (rsOf ts) s ns)) H
def spEffect (K : PySem.W.Frag) : Sp := fun vs H Q _ => ∃ (a p : Addr) (A : Nat) (ts : List (Addr × List Int)) (ns : List Int), vs = [.ref a, .ref p] ∧ GridAt H a ts ∧ RowsOk A ts ∧ ts.length ≤ 1000 ∧ SqT K H p (ns.map V.int) ∧ (∀ c ∈ ns, 0 ≤ c ∧ c < (A : Int)) ∧
  ∀ (H' : Hp) (q : Addr), Same H H' → H q = none → H' q = some (.tup ((effs (rsOf ts) ns).map V.int)) → Q (.ref q) H'
def rng (n : Nat) : List Int := (List.range n).map fun (i : Nat) => (i : Int)
def spPower (K : PySem.W.Frag) : Sp := fun vs H Q _ => ∃ (a : Addr) (t : Int) (fs : List Int), vs = [.ref a, .int t] ∧ SqL K H a (fs.map V.int) ∧ fs.length ≤ 1000 ∧ (∀ z ∈ fs, 0 ≤ z ∧ z < (fs.length : Int)) ∧ 0 ≤ t ∧ t < 2 ^ 63 ∧
  ∀ (H' : Hp) (q : Addr), Same H H' → H q = none → H' q = some (.tup ((powG 63 t.toNat fs (rng fs.length)).map V.int)) → Q (.ref q) H'
theorem rsOf_get {ts : List (Addr × List Int)} {i : Nat} {u : Addr × List Int} (h : ts[i]? = some u) : (rsOf ts)[i]? = some u.2 := by
  show (ts.map (·.2))[i]? = _
  rw [List.getElem?_map, h]
  rfl
section
variable {P : Program} {w : World} {K : PySem.W.Frag} {mg : Str → Option Value} {base : Heap}
theorem ok_led {f : Addr} {fd : FuncData} (A0 : Df K mg "_law_led" s_law_led f fd P_law_led) (T : Txt mg) : FnOk P w K mg base CX0 1 f fd P_law_led (spLed K) := by
  refine A0.F.ok sc_law_led (fun vs H Q E h => ?_) (fun cdv A outer s H vs Q E hr h => ?_)
  · obtain ⟨a, p, z, A, ts, ns, rfl, _⟩ := h
    rfl
  · obtain ⟨a, p, z, A, ts, ns, rfl, G, R, z0, z1, hp, hc, k⟩ := h
    refine ⟨_, (pss_cons (ps_for PassesOwn.never rfl (pi_tup (pv 2)) (pg_name (i := 3) sc_law_led.nd rfl (Or.inl rfl))
      (pss_one (ps_set (i := 1) sc_law_led.nd rfl (Or.inl rfl) (pe_ix ix_list (pe_ix ix_list (pv 0) (pv 1) (fun _ _ => rfl)) (pv 3) (fun _ _ => rfl)))))
    (pss_one (ps_ret (pv 1)))), ?_⟩
    have hl : (rsOf ts).length = ts.length := List.length_map ..
    refine ⟨_, rfl, p, rfl, ⟨_, hp⟩, for_tup (K := K) (a := p) (xs := ns.map V.int) (fun i σ H1 => H1 = H ∧ ∃ v : Option V, σ = [some (.ref a), some (.int (led (rsOf ts) z (ns.take i))), some (.ref p), v]) ⟨rfl, none, rfl⟩ (fun i σ H1 _ x => by rw [x.1]; exact hp) ?_ ?_⟩
    · rintro i x σ H1 hi ⟨rfl, v, rfl⟩
      obtain ⟨c, hci, rfl⟩ : ∃ c, ns[i]? = some c ∧ V.int c = x := by
        rw [List.getElem?_map] at hi
        cases e : ns[i]? with
        | none => rw [e] at hi; cases hi
        | some c => rw [e] at hi; exact ⟨c, rfl, Option.some.inj hi⟩
      have hcm := hc c (mem_of_get hci)
      have hs := R.rs.led (ns := ns.take i) (s := z) z0 (by rw [List.length_map]; exact z1) fun y hy => hc y (List.mem_of_mem_take hy)
      rw [show (ts.map (·.2)) = rsOf ts from rfl, hl] at hs
      obtain ⟨u, hu, hum⟩ : ∃ u, ts[(led (rsOf ts) z (ns.take i)).toNat]? = some u ∧ u ∈ ts := by
        have h : (led (rsOf ts) z (ns.take i)).toNat < ts.length := by omega
        exact ⟨_, List.getElem?_eq_getElem h, List.getElem_mem h⟩
      obtain ⟨ru, _⟩ := R.row u hum
      refine ⟨_, rfl, _, rfl, a, _, _, V.ref u.1, rfl, rfl, SqL.of G.top, atI_int hs.1 (by rw [List.getElem?_map, hu] <;> rfl), _, rfl, u.1, _, c, V.int (u.2.getD c.toNat 0), rfl, rfl, SqL.of (G.row u hum), atI_int hcm.1 ?_, ?_⟩
      · rw [List.getElem?_map, item_of hcm.1 (by omega) 0]
        rfl
      · refine ⟨rfl, some (.int c), ?_⟩
        have e : led (rsOf ts) z (ns.take (i + 1)) = u.2.getD c.toNat 0 := by
          unfold led
          rw [take_next hci, List.foldl_append]
          show stp (rsOf ts) (led (rsOf ts) z (ns.take i)) c = _
          unfold stp
          have e2 : (rsOf ts).getD (led (rsOf ts) z (ns.take i)).toNat [] = u.2 := getD_of (rsOf_get hu)
          rw [e2]
        rw [e]
        rfl
    · rintro σ H1 ⟨rfl, v, rfl⟩
      rw [List.length_map, List.take_length]
      exact ⟨_, rfl, k⟩
def fC (one : List Int) : V → V
  | .int s => .int (one.getD s.toNat 0)
  | x => x
theorem fC_map (f g : List Int) : (f.map V.int).map (fC g) = (comp f g).map V.int := by
  unfold comp
  rw [List.map_map, List.map_map]
  rfl
structure InR (n : Nat) (f : List Int) : Prop where
  len : f.length = n
  mem : ∀ z ∈ f, 0 ≤ z ∧ z < (n : Int)
theorem InR.comp {n : Nat} {f g : List Int} (x : InR n f) (y : InR n g) : InR n (Lk.comp f g) := by
  refine ⟨by unfold Lk.comp; rw [List.length_map, x.len], fun z hz => ?_⟩
  obtain ⟨s, hs, rfl⟩ := List.mem_map.mp hz
  obtain ⟨s0, s1⟩ := x.mem s hs
  exact y.mem _ (mem_of_get (item_of s0 (by rw [y.len]; exact s1) (0 : Int)))
theorem InR.rng (n : Nat) : InR n (Lk.rng n) := by
  refine ⟨by unfold Lk.rng; simp, fun z hz => ?_⟩
  obtain ⟨i, hi, rfl⟩ := List.mem_map.mp hz
  have := List.mem_range.mp hi
  omega
theorem rgV_rng (n : Nat) : rgV 0 (n : Int) = (rng n).map V.int := by
  unfold rgV rng
  rw [List.map_map]
  simp
end
end Lk

set_option Elab.async false
set_option maxRecDepth 100000
set_option maxHeartbeats 1000000
/-! enumerate over a tuple, as a walk of the hand layer -/
namespace Lk
open PySem PySem.Spec PyProof.Rows L2
/-- a new enumerate object over the iterator at it -/
def enumO (it : Addr) : Obj := { cls := .type "enumerate", data := .fields #[.none, .bool false, .ref it, rawInt 0, .none, .none] }
theorem meets_enumT (a : Addr) (items : Array Value) (dct : Option Addr) (n : Nat) (sl : Array (Option Value)) :
    Meets (Builtin.«enumerate.__new__» ⟨[.type "enumerate", .ref a], []⟩) (fun _ R s =>
      s.heap.get? a = some { cls := .type "tuple", dict := dct, data := .seq items n, slots := sl } ∧
      R (.ok (.ret (.ref (s.heap.push { cls := .type "tuple_iterator", data := .fields #[.ref a, .int 0 0] }).objs.size)))
        { s with heap := (s.heap.push { cls := .type "tuple_iterator", data := .fields #[.ref a, .int 0 0] }).push (enumO s.heap.objs.size) }) :=
  .of_wp fun prog w A R s h => by
    obtain ⟨hp, g, d, tk, os⟩ := s
    obtain ⟨hl, h⟩ := h
    have hsub := sub_enumerate
    have hT : Heap.IsTuple (Shared.heap ⟨hp, g, d, tk, os⟩) a items := ⟨_, hl, rfl, n, rfl⟩
    wp_walk using AutoSeq1.wpAny_loadPart' hl
    refine wpAny_stack_any fun st => wpAny_pure ?_
    split
    · rename_i c _ _ _ _ _
      cases (c == Value.type "enumerate") <;>
      · wp_walk using AutoSeq1.wpAny_loadPart' hl, wpAny_pyIter_tuple hT
        exact ⟨_, rfl, h⟩
    · wp_walk using AutoSeq1.wpAny_loadPart' hl, wpAny_pyIter_tuple hT
      exact ⟨_, rfl, h⟩
section
variable {prog : Program} {w : World} {A : Around} {E : Value → Shared → Prop} {s : Shared}
theorem call_enumT {a : Addr} {items : Array Value} {Q : Value → Shared → Prop} (hT : s.heap.IsTuple a items)
    (h : ∀ h', IsEnum h' (s.heap.objs.size + 1) s.heap.objs.size 0 .none →
      h'.IsTupleIter s.heap.objs.size a 0 →
      (∀ b o, s.heap.get? b = some o → h'.get? b = some o) →
      Q (.ref (s.heap.objs.size + 1)) { s with heap := h' }) :
    wpAny (model prog w) A (call (.type "enumerate") [.ref a]) Q E s := by
  obtain ⟨⟨c, dct, dt, sl⟩, hl, hc, n, hd⟩ := hT
  replace hc : c = .type "tuple" := hc
  replace hd : dt = .seq items n := hd
  subst hc hd
  refine callType_new F.called_enumerate (by decide) (F.typeCall_enumerate_1 _) (F.newCall_enumerate_1 _)
    (fun obj => F.args_object_init_2 obj _) F.entry_enumerate_new (meets_enumT a items dct n sl) ⟨hl, ?_⟩
  have hz : (s.heap.push { cls := .type "tuple_iterator", data := .fields #[.ref a, .int 0 0] }).objs.size
      = s.heap.objs.size + 1 := Heap.size_push ..
  show _ ∧ _
  rw [hz]
  have he : IsEnum ((s.heap.push { cls := .type "tuple_iterator", data := .fields #[.ref a, .int 0 0] }).push (enumO s.heap.objs.size))
      (s.heap.objs.size + 1) s.heap.objs.size 0 .none := by
    have q := Heap.get?_push_size (s.heap.push { cls := .type "tuple_iterator", data := .fields #[.ref a, .int 0 0] })
      (o := enumO s.heap.objs.size) rfl
    rw [hz] at q
    exact q
  have hi : ((s.heap.push { cls := .type "tuple_iterator", data := .fields #[.ref a, .int 0 0] }).push (enumO s.heap.objs.size)).IsTupleIter
      s.heap.objs.size a 0 := ⟨_, Heap.get?_push_of_some _ (Heap.get?_push_size _ rfl), rfl, rfl⟩
  exact ⟨⟨_, he, rfl⟩, h _ he hi fun b o x => Heap.get?_push_of_some _ (Heap.get?_push_of_some _ x)⟩
end
theorem next_enumT_end {prog : Program} {w : World} {A : Around} {E : Value → Shared → Prop} {s : Shared}
    {e it a : Addr} {i : Nat} {items : Array Value} {old : Value} {Q : Option Value → Shared → Prop} (hh : A.handled = none)
    (he : IsEnum s.heap e it i old) (hit : s.heap.IsTupleIter it a i) (ha : s.heap.IsTuple a items) (hx : items[i]? = none)
    (hQ : ∀ h', Heap.ExtBut it s.heap h' → Q none { s with heap := h' }) :
    wpAny (model prog w) A (pyNext (.ref e)) Q E s := by
  have hT : s.TypeIs (.ref e) "enumerate" := ⟨_, he, rfl⟩
  unfold pyNext
  refine wpAny_bind (wpAny_attempt (wpAny_callSpecial?_slot (name := Str.ofString "__next__") hT
    F.slot_enumerate_next (wpAny_call_entry F.slot_enumerate_next hT F.entry_enumerate_next ?_
      (F.args_enumerate_next_1 _))))
  show wpAny _ _ (field (.ref e) 2 >>= _) _ _ _
  refine wpAny_bind (wpAny_field he rfl (x := .ref it) rfl (wpAny_bind
    (wpAny_nextOf_tuple_end hh hit ha hx fun h' x hb hc => ?_)))
  obtain ⟨o, ho, hc⟩ := hc
  refine wpAny_bind (wpAny_isInstance (T := "StopIteration") (b := true) ⟨o, ho, hc⟩ isSubtype_stop ?_)
  exact wpAny_pure (hQ _ hb)
/-- the tuple at a, each item in a new pair with its index -/
def ItE (K : PySem.W.Frag) (a : Addr) : It :=
  ⟨fun i H => ∃ (xs : List V) (x : V), SqT K H a xs ∧ xs[i]? = some x,
    fun i H v H' => ∃ T x, v = .ref T ∧ H T = none ∧ H' = upd H T (.tup [.int (i : Nat), x]) ∧
      ∀ xs, SqT K H a xs → xs[i]? = some x,
    fun i H => ∃ xs : List V, SqT K H a xs ∧ xs.length ≤ i⟩
theorem turn_enumT {P : Program} {w : World} {K : PySem.W.Frag} {elts : List Expr} {kk : Nat} {tpos : Pos} (a e it : Addr) :
    Turn P w K (.Tuple elts kk tpos) (ItE K a) [e, it] e
      (fun i h => (∃ old, IsEnum h e it ((i : Nat) : Int) old) ∧ h.IsTupleIter it a i ∧ e ≠ it ∧ a ≠ it ∧ e ≠ a) where
  mem := by simp
  obj := fun i h st b hb => by
    obtain ⟨⟨old, he⟩, ⟨o, ho, hc, hd⟩, _⟩ := st
    have e' : b = e ∨ b = it := by simpa using hb
    rcases e' with z | z
    · rw [z]
      exact ⟨_, he, fun v q => nomatch q⟩
    · rw [z]
      exact ⟨o, ho, fun v q => by rw [hd] at q; cases q⟩
  keep := fun i h h' st k =>
    let ⟨⟨old, he⟩, hi, hne⟩ := st
    ⟨⟨old, k e (by simp) _ he⟩, hi.at fun o q => k it (by simp) o q, hne⟩
  item := by
    intro X hP hw hK hc i pins s σ H E I hf st hg
    subst hP hw hK
    obtain ⟨⟨old, he⟩, hit, hne, hat, hea⟩ := st
    obtain ⟨xs, x, hq, hx⟩ := hg
    obtain ⟨its, rv, p, hz⟩ := I.tuple hq
    obtain ⟨u, hu, ru⟩ := rv.get hx
    have hel : e < s.heap.objs.size := Heap.lt_size he
    have hil : it < s.heap.objs.size := by obtain ⟨_, q, _⟩ := hit; exact Heap.lt_size q
    have p' : s.heap.IsTuple a its.toArray := p
    have hlt : i < its.toArray.size := by
      have := (List.getElem?_eq_some_iff.mp hu).1
      simpa using this
    have hh : X.A.in1.handled = none := I.ok.hd hc
    refine wpAny_pyNext_enum_itemD (Draws.tuple (prog := X.prog) (w := X.w) (A := X.A.in1) hh it a hat its.toArray) he
      ⟨hit, p'⟩ hlt hne (by simp; exact ⟨hne, hea⟩) fun y h' tk hy ho hst hT hsz hk => ?_
    have ey : y = u := by
      have q : its.toArray[i]? = some u := by simpa using hu
      rw [q] at hy
      exact (Option.some.inj hy).symm
    subst ey
    refine ⟨_, rfl, wpAny_letOwnedTupleGo_enum (s := { s with heap := h', toks := tk + 1 }) ho fun h'' he' sb => ?_⟩
    have hT2 : h''.get? s.heap.objs.size = some { cls := .type "tuple", data := .seq #[.int i tk, y] } :=
      (sb.2 _ (Nat.ne_of_gt hel)).trans hT
    have new : ObjOk X.prog X.w (upd H s.heap.objs.size (.tup [.int (i : Nat), x])) h'' s.heap.objs.size (.tup [.int (i : Nat), x]) :=
      ⟨by show 2 ≤ sizeLine; decide, [.int i tk, y], .cons ⟨_, rfl⟩ (.cons ru .nil), ⟨_, hT2, rfl, _, rfl⟩⟩
    have I1 : Inv X pins σ (upd H s.heap.objs.size (.tup [.int (i : Nat), x])) { s with heap := h'', toks := tk + 1 } :=
      I.turnedNew (ch := [e, it]) (fun b ob hb q => (sb.2 b (fun z => hb (by simp [z]))).trans
        (hk b ob (fun z => hb (by simp [z])) (fun z => hb (by simp [z])) q)) hf (Nat.le_refl _) new
    refine ⟨.ref s.heap.objs.size, _, I1, rfl, ⟨_, x, rfl, I.hok.fresh (Nat.le_refl _), rfl, fun ys hy => by
      rw [I.tuple_inj hy hq]; exact hx⟩, ⟨⟨y, ?_⟩, hst.1.at fun o q => (sb.2 it (Ne.symm hne)).trans q, hne, hat, hea⟩, fun b hb => ?_⟩
    · have e1 : ((i + 1 : Nat) : Int) = (i : Int) + 1 := by omega
      rw [e1]
      exact he'
    · have hb' : b < s.heap.objs.size := by
        have e' : b = e ∨ b = it := by simpa using hb
        rcases e' with z | z
        · rw [z]; exact hel
        · rw [z]; exact hil
      rw [upd_ne (Nat.ne_of_lt hb')]
      exact (hf b hb).1
  done := by
    intro X hP hw hK hc i pins s σ H E I hf st hg
    subst hP hw hK
    obtain ⟨⟨old, he⟩, hit, hne, hat, hea⟩ := st
    obtain ⟨xs, hq, hx⟩ := hg
    obtain ⟨its, rv, p, hz⟩ := I.tuple hq
    obtain ⟨f0, f1, f2, f3, f4, f5⟩ := hf it (by simp)
    have hl := rv.length
    exact next_enumT_end (I.ok.hd hc) he hit (show s.heap.IsTuple a its.toArray from p) (by simp; omega) fun h' eb =>
      ⟨rfl, I.turned (t' := s.toks) (fun b o hb q => eb b o hb q) f0 f1 f3 f4 f5⟩
  self := fun A i s Q E st h => let ⟨⟨_, he⟩, _⟩ := st; wpAny_pyIter_enum he h
def iEnumT (K : PySem.W.Frag) (ta : TA) : TI := fun σ H R => ta σ H fun vs H1 => ∃ a xs, vs = [.ref a] ∧ SqT K H1 a xs ∧ R (ItE K a) H1
theorem pi_enumT {X : Cx} {e : Expr} {ta : TA} {p pos tpos : Pos} {elts : List Expr} {kk : Nat} (hg : Gl X "enumerate")
    (hm : X.mg "enumerate" = none) (ha : PA X [e] ta) (hs : starEach [e] X.env = [(false, eval e X.env)] := by rfl) :
    PI X (.Tuple elts kk tpos) (.Call (.Name "enumerate" p) [e] [] pos) (iEnumT X.K ta) := by
  refine ⟨fun pins s σ H R I h => ?_⟩
  refine Call_ (ld_blt I hg hm boot_enumerate (PyProof.Rows.callWith_type1
    (thn (ha.run pos pins s σ H _ I h) fun us s1 ⟨vs, H1, I1, r1, q1⟩ => ?_) hs rfl))
  obtain ⟨a, xs, ex, hq, q⟩ := q1
  subst ex
  cases r1 with
  | cons r rr =>
    cases rr
    cases r
    obtain ⟨its, rv, p', hz⟩ := I1.tuple hq
    have pT : s1.heap.IsTuple a its.toArray := p'
    have hal : a < s1.heap.objs.size := by obtain ⟨_, q, _⟩ := pT; exact Heap.lt_size q
    refine call_enumT pT fun h' he hit hk => wpAny_pyIter_enum he ?_
    have I2 : Inv X pins σ H1 { s1 with heap := h' } := I1.kept (t' := s1.toks) hk
    refine ⟨s1.heap.objs.size + 1, [s1.heap.objs.size + 1, s1.heap.objs.size], _, _, H1, rfl, I2,
      turn_enumT a (s1.heap.objs.size + 1) s1.heap.objs.size,
      ⟨⟨.none, he⟩, hit, Nat.succ_ne_self _, Nat.ne_of_lt hal, Nat.ne_of_gt (Nat.lt_succ_of_lt hal)⟩, fun b hb => ?_, q⟩
    have hle : s1.heap.objs.size ≤ b := by
      have e' : b = s1.heap.objs.size + 1 ∨ b = s1.heap.objs.size := by simpa using hb
      rcases e' with z | z
      · rw [z]; exact Nat.le_succ _
      · rw [z]; exact Nat.le_refl _
    exact I1.fpOk hle (I1.hok.fresh hle)
end Lk

set_option Elab.async false
set_option maxRecDepth 100000
set_option maxHeartbeats 1000000
namespace Lk
open PySem L2
/-! ### loops over enumerate -/
theorem for_enumT {K : PySem.W.Frag} {a : Addr} {xs : List V} {g : TG} {tb : TS} {D : Ends} {σ : St} {H : Hp} (Pv : Nat → St → Hp → Prop) (h0 : Pv 0 σ H) (hl : ∀ i σ H, Pv i σ H → SqT K H a xs)
    (hs : ∀ i x σ H T, xs[i]? = some x → Pv i σ H → H T = none → g (.ref T) σ (upd H T (.tup [.int (i : Nat), x])) fun σ2 H2 => tb { D with nx := Pv (i + 1), ct := Pv (i + 1), bk := D.nx } σ2 H2)
    (hd : ∀ σ H, Pv xs.length σ H → D.nx σ H) :
    ∃ W : Nat → Nat → St → Hp → Prop, (∃ m, W 0 m σ H) ∧ ∀ i m σ H, W i m σ H →
      ((ItE K a).stop i H ∧ D.nx σ H) ∨ ((ItE K a).go i H ∧ ∃ N : St → Hp → Prop, (∀ σ' H', N σ' H' → ∃ m', m' < m ∧ W (i + 1) m' σ' H') ∧ ∀ x H', (ItE K a).yld i H x H' → g x σ H' fun σ2 H2 => tb { D with nx := N, ct := N, bk := D.nx } σ2 H2) := by
  refine ⟨fun i m σ H => m = xs.length - i ∧ i ≤ xs.length ∧ Pv i σ H, ⟨xs.length, by simp, Nat.zero_le _, h0⟩, ?_⟩
  rintro i m σ H ⟨rfl, hi, p⟩
  have q := hl i σ H p
  by_cases h : i < xs.length
  · refine .inr ⟨⟨xs, xs[i], q, List.getElem?_eq_getElem h⟩, Pv (i + 1), fun σ' H' n => ⟨xs.length - (i + 1), by omega, rfl, by omega, n⟩, ?_⟩
    rintro x H' ⟨T, y, rfl, hT, rfl, hy⟩
    exact hs i y σ H T (hy xs q) p hT
  · have e : i = xs.length := by omega
    subst e
    exact .inl ⟨⟨xs, q, Nat.le_refl _⟩, hd σ H p⟩
theorem for_enumL {K : PySem.W.Frag} {a : Addr} {xs : List V} {g : TG} {tb : TS} {D : Ends} {σ : St} {H : Hp} (Pv : Nat → St → Hp → Prop) (h0 : Pv 0 σ H) (hl : ∀ i σ H, Pv i σ H → SqL K H a xs)
    (hs : ∀ i x σ H T, xs[i]? = some x → Pv i σ H → H T = none → g (.ref T) σ (upd H T (.tup [.int (i : Nat), x])) fun σ2 H2 => tb { D with nx := Pv (i + 1), ct := Pv (i + 1), bk := D.nx } σ2 H2)
    (hd : ∀ σ H, Pv xs.length σ H → D.nx σ H) :
    ∃ W : Nat → Nat → St → Hp → Prop, (∃ m, W 0 m σ H) ∧ ∀ i m σ H, W i m σ H →
      ((Ite K a).stop i H ∧ D.nx σ H) ∨ ((Ite K a).go i H ∧ ∃ N : St → Hp → Prop, (∀ σ' H', N σ' H' → ∃ m', m' < m ∧ W (i + 1) m' σ' H') ∧ ∀ x H', (Ite K a).yld i H x H' → g x σ H' fun σ2 H2 => tb { D with nx := N, ct := N, bk := D.nx } σ2 H2) := by
  refine ⟨fun i m σ H => m = xs.length - i ∧ i ≤ xs.length ∧ Pv i σ H, ⟨xs.length, by simp, Nat.zero_le _, h0⟩, ?_⟩
  rintro i m σ H ⟨rfl, hi, p⟩
  have q := hl i σ H p
  by_cases h : i < xs.length
  · refine .inr ⟨⟨xs, xs[i], q, List.getElem?_eq_getElem h⟩, Pv (i + 1), fun σ' H' n => ⟨xs.length - (i + 1), by omega, rfl, by omega, n⟩, ?_⟩
    rintro x H' ⟨T, y, rfl, hT, rfl, hy⟩
    exact hs i y σ H T (hy xs q) p hT
  · have e : i = xs.length := by omega
    subst e
    exact .inl ⟨⟨xs, q, Nat.le_refl _⟩, hd σ H p⟩

/-! ### any values, as data -/
mutual
inductive Dv (H : Hp) : V → PyData → Prop
  | non : Dv H .non .none
  | bl (b : Bool) : Dv H (.bl b) (.bool b)
  | int (i : Int) : Dv H (.int i) (.int i)
  | str (x : Str) : Dv H (.str x) (.str x)
  | lst {a : Addr} {xs : List V} {ds : List PyData} : H a = some (.lst xs) → DvAll H xs ds → Dv H (.ref a) (.list ds)
  | tup {a : Addr} {xs : List V} {ds : List PyData} : H a = some (.tup xs) → DvAll H xs ds → Dv H (.ref a) (.tuple ds)
  | dct {a : Addr} : H a = some (.dK []) → Dv H (.ref a) (.dict [])
inductive DvAll (H : Hp) : List V → List PyData → Prop
  | nil : DvAll H [] []
  | cons {v : V} {vs : List V} {d : PyData} {ds : List PyData} : Dv H v d → DvAll H vs ds → DvAll H (v :: vs) (d :: ds)
end
mutual
theorem Dv.kp {S : Addr → Prop} {H H' : Hp} (hS : ∀ a, S a → H a = none) (k : KP S H H') : ∀ {v : V} {d : PyData}, Dv H v d → Dv H' v d
  | _, _, .non => .non
  | _, _, .bl b => .bl b
  | _, _, .int i => .int i
  | _, _, .str x => .str x
  | _, _, .lst h t => .lst (k.get (fun s => by rw [hS _ s] at h; cases h) h) (DvAll.kp hS k t)
  | _, _, .tup h t => .tup (k.get (fun s => by rw [hS _ s] at h; cases h) h) (DvAll.kp hS k t)
  | _, _, .dct h => .dct (k.get (fun s => by rw [hS _ s] at h; cases h) h)
theorem DvAll.kp {S : Addr → Prop} {H H' : Hp} (hS : ∀ a, S a → H a = none) (k : KP S H H') : ∀ {vs : List V} {ds : List PyData}, DvAll H vs ds → DvAll H' vs ds
  | _, _, .nil => .nil
  | _, _, .cons h t => .cons (Dv.kp hS k h) (DvAll.kp hS k t)
end
theorem Dv.same {H H' : Hp} {v : V} {d : PyData} (k : Same H H') (h : Dv H v d) : Dv H' v d := h.kp (S := fun _ => False) (fun _ x => x.elim) (KP.same k)
theorem DvAll.same {H H' : Hp} {v : List V} {d : List PyData} (k : Same H H') (h : DvAll H v d) : DvAll H' v d := h.kp (S := fun _ => False) (fun _ x => x.elim) (KP.same k)
theorem DvAll.len {H : Hp} : ∀ {vs : List V} {ds : List PyData}, DvAll H vs ds → vs.length = ds.length
  | _, _, .nil => rfl
  | _, _, .cons _ t => congrArg (· + 1) t.len
theorem DvAll.get {H : Hp} : ∀ {vs : List V} {ds : List PyData} {i : Nat} {v : V}, DvAll H vs ds → vs[i]? = some v → ∃ d, ds[i]? = some d ∧ Dv H v d
  | _, _, i, v, .nil, h => by simp at h
  | _, _, 0, v, .cons h _, e => ⟨_, rfl, by have e' := Option.some.inj e; rw [← e']; exact h⟩
  | _, _, i + 1, v, .cons _ t, e => t.get (i := i) e
def tyD : PyData → String
  | .none => "NoneType"
  | .bool _ => "bool"
  | .int _ => "int"
  | .str _ => "str"
  | .list _ => "list"
  | .tuple _ => "tuple"
  | .dict _ => "dict"
theorem Dv.ty {K : PySem.W.Frag} {H : Hp} {v : V} {d : PyData} : Dv H v d → TyX K H v (.type (tyD d))
  | .non => .base .non
  | .bl b => .base (.bl b)
  | .int i => .base (.int i)
  | .str x => .base (.str x)
  | .lst h _ => .base (.lst h)
  | .tup h _ => .base (.tup h)
  | .dct h => .base (.dK h)
/-- an integer that is no bool; from 0 on; below a limit; a sequence; an entry -/
def isI : PyData → Bool
  | .int _ => true
  | _ => false
def isN : PyData → Bool
  | .int i => decide (0 ≤ i)
  | _ => false
def isB (n : Int) : PyData → Bool
  | .int i => decide (0 ≤ i) && decide (i < n)
  | _ => false
def isS : PyData → Bool
  | .list _ | .tuple _ => true
  | _ => false
def itemsD : PyData → List PyData
  | .list ds | .tuple ds => ds
  | _ => []
def isE (A n : Int) (d : PyData) : Bool := isS d && (decide (((itemsD d).length : Int) = A) && (itemsD d).all (isB n))
abbrev s_is_integer : Stmt := top 6
abbrev N_is_integer : List Str := ["value"]
abbrev P_is_integer : List Str := ["value"]
theorem sc_is_integer : FnScope N_is_integer P_is_integer (defScope s_is_integer) := ⟨rfl, rfl, rfl, by decide +kernel, rfl, by decide +kernel, by decide +kernel⟩
abbrev s_is_number : Stmt := top 7
abbrev N_is_number : List Str := ["value"]
abbrev P_is_number : List Str := ["value"]
theorem sc_is_number : FnScope N_is_number P_is_number (defScope s_is_number) := ⟨rfl, rfl, rfl, by decide +kernel, rfl, by decide +kernel, by decide +kernel⟩
abbrev s_is_below : Stmt := top 8
abbrev N_is_below : List Str := ["value", "limit"]
abbrev P_is_below : List Str := ["value", "limit"]
theorem sc_is_below : FnScope N_is_below P_is_below (defScope s_is_below) := ⟨rfl, rfl, rfl, by decide +kernel, rfl, by decide +kernel, by decide +kernel⟩
abbrev s_is_sequence : Stmt := top 9
abbrev N_is_sequence : List Str := ["value"]
abbrev P_is_sequence : List Str := ["value"]
theorem sc_is_sequence : FnScope N_is_sequence P_is_sequence (defScope s_is_sequence) := ⟨rfl, rfl, rfl, by decide +kernel, rfl, by decide +kernel, by decide +kernel⟩
abbrev s_are_below : Stmt := top 10
abbrev N_are_below : List Str := ["values", "limit", "value"]
abbrev P_are_below : List Str := ["values", "limit"]
theorem sc_are_below : FnScope N_are_below P_are_below (defScope s_are_below) := ⟨rfl, rfl, rfl, by decide +kernel, rfl, by decide +kernel, by decide +kernel⟩
abbrev s_is_entry : Stmt := top 13
abbrev N_is_entry : List Str := ["entry", "commands", "states"]
abbrev P_is_entry : List Str := ["entry", "commands", "states"]
theorem sc_is_entry : FnScope N_is_entry P_is_entry (defScope s_is_entry) := ⟨rfl, rfl, rfl, by decide +kernel, rfl, by decide +kernel, by decide +kernel⟩
/-- a test of one value -/
def spT1 (t : PyData → Bool) : Sp := fun vs H Q _ => ∃ (x : V) (d : PyData), vs = [x] ∧ Dv H x d ∧ ∀ H', Same H H' → Q (.bl (t d)) H'
def spBelow : Sp := fun vs H Q _ => ∃ (x : V) (d : PyData) (n : Int), vs = [x, .int n] ∧ Dv H x d ∧ Q (.bl (isB n d)) H
def spAre : Sp := fun vs H Q _ => ∃ (x : V) (d : PyData) (n : Int), vs = [x, .int n] ∧ Dv H x d ∧ isS d = true ∧ (itemsD d).length ≤ 100000 ∧ ∀ H', Same H H' → Q (.bl ((itemsD d).all (isB n))) H'
def spEntry : Sp := fun vs H Q _ => ∃ (x : V) (d : PyData) (A n : Int), vs = [x, .int A, .int n] ∧ Dv H x d ∧ (itemsD d).length ≤ 100000 ∧ ∀ H', Same H H' → Q (.bl (isE A n d)) H'
theorem Same.new {H : Hp} {p : Addr} {o : HO} (h : H p = none) : Same H (upd H p o) := (KP.new (S := fun _ => False) h).toSame
section
variable {P : Program} {w : World} {K : PySem.W.Frag} {mg : Str → Option Value} {base : Heap}
theorem ok_integer {f : Addr} {fd : FuncData} (A0 : Df K mg "is_integer" s_is_integer f fd P_is_integer) (T : Txt mg) : FnOk P w K mg base CX0 1 f fd P_is_integer (spT1 isI) := by
  refine A0.F.ok sc_is_integer (fun vs H Q E h => ?_) (fun cdv A outer s H vs Q E hr h => ?_)
  · obtain ⟨x, d, rfl, _⟩ := h
    rfl
  · obtain ⟨x, d, rfl, D, k⟩ := h
    refine ⟨_, (pss_one (ps_ret (pe_and (pe_callB call_isi (by rfl) T.isinstance PyProof.Rows.boot_isinstance (pa_cons (pv 0) (pa_cons (pe_bltn (v := .ty "int") (by rfl) T.int (by decide +kernel) rfl) pa_nil)))
      (pe_one (pe_not (pe_callB call_isi (by rfl) T.isinstance PyProof.Rows.boot_isinstance (pa_cons (pv 0) (pa_cons (pe_bltn (v := .ty "bool") (by rfl) T.bool (by decide +kernel) rfl) pa_nil)))))))), ?_⟩
    have key : ∀ (b1 b2 : Bool), PySem.W.kitOne K (.type (tyD d)) (.type "int") = some b1 → PySem.W.kitOne K (.type (tyD d)) (.type "bool") = some b2 → (b1 && !b2) = isI d → tRet (tAndV (tCB (rIsi K) (tCons (tVar 0) (tCons (tC (.ty "int")) tNil))) (tNotV (tCB (rIsi K) (tCons (tVar 0) (tCons (tC (.ty "bool")) tNil))))) { nx := fun _ H' => Q .non H', rt := Q } [some x] H := by
      intro b1 b2 h1 h2 h3
      refine ⟨_, rfl, x, _, _, _, b1, rfl, .ty _, D.ty, h1, b1, rfl, ?_⟩
      cases b1 with
      | false =>
        refine iteF ?_
        rw [show (false : Bool) = isI d from h3]
        exact k _ (Same.refl _)
      | true =>
        refine iteT ⟨_, rfl, x, _, _, _, b2, rfl, .ty _, D.ty, h2, b2, rfl, ?_⟩
        rw [show (!b2) = isI d by rw [← h3, Bool.true_and]]
        exact k _ (Same.refl _)
    cases d with
    | none => exact key false false (kit_ty (a := "NoneType") (by decide +kernel)) (kit_ty (a := "NoneType") (by decide +kernel)) rfl
    | bool b => exact key true true (kit_ty (a := "bool") (by decide +kernel)) (kit_ty (a := "bool") (by decide +kernel)) rfl
    | int i => exact key true false (kit_ty (a := "int") (by decide +kernel)) (kit_ty (a := "int") (by decide +kernel)) rfl
    | str x => exact key false false (kit_ty (a := "str") (by decide +kernel)) (kit_ty (a := "str") (by decide +kernel)) rfl
    | list x => exact key false false (kit_ty (a := "list") (by decide +kernel)) (kit_ty (a := "list") (by decide +kernel)) rfl
    | tuple x => exact key false false (kit_ty (a := "tuple") (by decide +kernel)) (kit_ty (a := "tuple") (by decide +kernel)) rfl
    | dict x => exact key false false (kit_ty (a := "dict") (by decide +kernel)) (kit_ty (a := "dict") (by decide +kernel)) rfl
theorem ok_sequence {f : Addr} {fd : FuncData} (A0 : Df K mg "is_sequence" s_is_sequence f fd P_is_sequence) (T : Txt mg) : FnOk P w K mg base CX0 1 f fd P_is_sequence (spT1 isS) := by
  refine A0.F.ok sc_is_sequence (fun vs H Q E h => ?_) (fun cdv A outer s H vs Q E hr h => ?_)
  · obtain ⟨x, d, rfl, _⟩ := h
    rfl
  · obtain ⟨x, d, rfl, D, k⟩ := h
    refine ⟨_, (pss_one (ps_ret (pe_callB call_isiT (by rfl) T.isinstance PyProof.Rows.boot_isinstance (pa_cons (pv 0) (pa_cons (pe_tup (pa_cons (pe_bltn (v := .ty "list") (by rfl) T.list (by decide +kernel) rfl) (pa_cons (pe_bltn (v := .ty "tuple") (by rfl) T.tuple (by decide +kernel) rfl) pa_nil))) pa_nil))))), ?_⟩
    have key : ∀ (b1 b2 : Bool), PySem.W.kitOne K (.type (tyD d)) (.type "list") = some b1 → PySem.W.kitOne K (.type (tyD d)) (.type "tuple") = some b2 → (b1 || b2) = isS d → tRet (tCB (rIsiT K) (tCons (tVar 0) (tCons (tTup (tCons (tC (.ty "list")) (tCons (tC (.ty "tuple")) tNil))) tNil))) { nx := fun _ H' => Q .non H', rt := Q } [some x] H := by
      intro b1 b2 h1 h2 h3
      refine ⟨_, rfl, by show 2 ≤ sizeLine; decide, fun p hp => ⟨x, p, _, _, [.type "list", .type "tuple"], (b1 || b2), rfl, upd_same, .cons (.ty _) (.cons (.ty _) .nil), (D.same (Same.new hp)).ty, ?_, ?_⟩⟩
      · refine kitAny_cons h1 (fun e => ?_) (fun e => by rw [e]; rfl)
        refine kitAny_cons h2 (fun e2 => by rw [e, e2]; exact kitAny_nil) (fun e2 => by rw [e2, Bool.or_true])
      · rw [h3]
        exact k _ (Same.new hp)
    cases d with
    | none => exact key false false (kit_ty (a := "NoneType") (by decide +kernel)) (kit_ty (a := "NoneType") (by decide +kernel)) rfl
    | bool b => exact key false false (kit_ty (a := "bool") (by decide +kernel)) (kit_ty (a := "bool") (by decide +kernel)) rfl
    | int i => exact key false false (kit_ty (a := "int") (by decide +kernel)) (kit_ty (a := "int") (by decide +kernel)) rfl
    | str x => exact key false false (kit_ty (a := "str") (by decide +kernel)) (kit_ty (a := "str") (by decide +kernel)) rfl
    | list x => exact key true false (kit_ty (a := "list") (by decide +kernel)) (kit_ty (a := "list") (by decide +kernel)) rfl
    | tuple x => exact key false true (kit_ty (a := "tuple") (by decide +kernel)) (kit_ty (a := "tuple") (by decide +kernel)) rfl
    | dict x => exact key false false (kit_ty (a := "dict") (by decide +kernel)) (kit_ty (a := "dict") (by decide +kernel)) rfl
end
end Lk

set_option Elab.async false
set_option maxRecDepth 100000
set_option maxHeartbeats 1000000
namespace Lk
open PySem L2
def isBV (n : Int) : V → Bool
  | .int i => decide (0 ≤ i) && decide (i < n)
  | _ => false
theorem Dv.isBV {H : Hp} {x : V} {d : PyData} {n : Int} (h : Dv H x d) : Lk.isBV n x = isB n d := by
  cases h <;> rfl
theorem DvAll.all {H : Hp} {n : Int} : ∀ {xs : List V} {ds : List PyData}, DvAll H xs ds → (xs.map (Lk.isBV n)).all id = ds.all (isB n)
  | _, _, .nil => rfl
  | _, _, .cons h t => by
    rw [List.map_cons, List.all_cons, List.all_cons, DvAll.all t, h.isBV]
    rfl
def spBelowS : Sp := fun vs H Q _ => ∃ (x : V) (d : PyData) (n : Int), vs = [x, .int n] ∧ Dv H x d ∧ ∀ H', Same H H' → Q (.bl (isB n d)) H'
section
variable {P : Program} {w : World} {K : PySem.W.Frag} {mg : Str → Option Value} {base : Heap}
theorem ok_number {f fi : Addr} {fd fdi : FuncData} (A0 : Df K mg "is_number" s_is_number f fd P_is_number) (d_is_integer : Df K mg "is_integer" s_is_integer fi fdi P_is_integer) (T : Txt mg) : FnOk P w K mg base CX0 2 f fd P_is_number (spT1 isN) := by
  have G_is_integer : FnOk P w K mg base CX0 1 fi fdi P_is_integer (spT1 isI) := ok_integer d_is_integer T
  refine A0.F.ok sc_is_number (fun vs H Q E h => ?_) (fun cdv A outer s H vs Q E hr h => ?_)
  · obtain ⟨x, d, rfl, _⟩ := h
    rfl
  · obtain ⟨x, d, rfl, D, k⟩ := h
    refine ⟨_, (pss_one (ps_ret (pe_and (pe_call G_is_integer (hr.mono (by decide)) rfl d_is_integer.g d_is_integer.F.kp d_is_integer.b .nil pass0 (pa_cons (pv 0) pa_nil)) (pe_one (pe_cmpR op_ge (pv 0) pe_int (nomark _)))))), ?_⟩
    refine ⟨_, rfl, x, d, rfl, D, fun H1 S1 => ⟨isI d, rfl, ?_⟩⟩
    cases D with
    | int i => exact iteT ⟨_, rfl, _, _, rfl, rfl, k _ S1⟩
    | non => exact iteF (k _ S1)
    | bl b => exact iteF (k _ S1)
    | str b => exact iteF (k _ S1)
    | lst _ _ => exact iteF (k _ S1)
    | tup _ _ => exact iteF (k _ S1)
    | dct _ => exact iteF (k _ S1)
theorem ok_below {f fi fn : Addr} {fd fdi fdn : FuncData} (A0 : Df K mg "is_below" s_is_below f fd P_is_below) (d_is_number : Df K mg "is_number" s_is_number fn fdn P_is_number) (d_is_integer : Df K mg "is_integer" s_is_integer fi fdi P_is_integer) (T : Txt mg) : FnOk P w K mg base CX0 3 f fd P_is_below spBelowS := by
  have G_is_number : FnOk P w K mg base CX0 2 fn fdn P_is_number (spT1 isN) := ok_number d_is_number d_is_integer T
  refine A0.F.ok sc_is_below (fun vs H Q E h => ?_) (fun cdv A outer s H vs Q E hr h => ?_)
  · obtain ⟨x, d, n, rfl, _⟩ := h
    rfl
  · obtain ⟨x, d, n, rfl, D, k⟩ := h
    refine ⟨_, (pss_one (ps_ret (pe_and (pe_call G_is_number (hr.mono (by decide)) rfl d_is_number.g d_is_number.F.kp d_is_number.b .nil pass0 (pa_cons (pv 0) pa_nil)) (pe_one (pe_cmpR op_lt (pv 0) (pv 1) (nomark _)))))), ?_⟩
    refine ⟨_, rfl, x, d, rfl, D, fun H1 S1 => ⟨isN d, rfl, ?_⟩⟩
    cases D with
    | int i =>
      show (if decide (0 ≤ i) = true then _ else _)
      have k' : Q (.bl (decide (0 ≤ i) && decide (i < n))) H1 := k H1 S1
      by_cases h0 : 0 ≤ i
      · rw [if_pos (decide_eq_true h0)]
        refine ⟨_, rfl, _, rfl, _, _, rfl, rfl, ?_⟩
        rw [decide_eq_true h0, Bool.true_and] at k'
        exact k'
      · rw [decide_eq_false h0] at k' ⊢
        exact iteF k'
    | non => exact iteF (k _ S1)
    | bl b => exact iteF (k _ S1)
    | str b => exact iteF (k _ S1)
    | lst _ _ => exact iteF (k _ S1)
    | tup _ _ => exact iteF (k _ S1)
    | dct _ => exact iteF (k _ S1)
theorem ok_are {f fi fn fb : Addr} {fd fdi fdn fdb : FuncData} (A0 : Df K mg "are_below" s_are_below f fd P_are_below) (d_is_below : Df K mg "is_below" s_is_below fb fdb P_is_below) (d_is_number : Df K mg "is_number" s_is_number fn fdn P_is_number) (d_is_integer : Df K mg "is_integer" s_is_integer fi fdi P_is_integer) (T : Txt mg) : FnOk P w K mg base CX0 4 f fd P_are_below spAre := by
  have G_is_below : FnOk P w K mg base CX0 3 fb fdb P_is_below spBelowS := ok_below d_is_below d_is_number d_is_integer T
  refine A0.F.ok sc_are_below (fun vs H Q E h => ?_) (fun cdv A outer s H vs Q E hr h => ?_)
  · obtain ⟨x, d, n, rfl, _⟩ := h
    rfl
  · obtain ⟨x, d, n, rfl, D, hS, hl, k⟩ := h
    have fin : ∀ (xs : List V) (ds : List PyData) (H' : Hp) (q : Addr), DvAll H xs ds → itemsD d = ds → Same H H' → H' q = some (.lst (xs.map fun x => V.bl (isBV n x))) → rAll K [.ref q] H' Q := fun xs ds H' q h1 h2 h3 h4 => by
      refine ⟨q, xs.map (isBV n), rfl, SqL.of ?_, ?_⟩
      · rw [h4, List.map_map]
        rfl
      · rw [h1.all, ← h2]
        exact k _ h3
    have el : ∀ (xs : List V) (ds : List PyData) (y : V) (H2 : Hp) (Q2 : VK) (x0 : V), DvAll H xs ds → y ∈ xs → Same H H2 → (∀ H4, Same H2 H4 → Q2 (V.bl (isBV n y)) H4) → tCall spBelowS [] E0 (tCons (tVar 2) (tCons (tVar 1) tNil)) [some x0, some (.int n), some y] H2 Q2 := fun xs ds y H2 Q2 x0 h1 h2 h3 h4 => by
      obtain ⟨i, hi⟩ := List.getElem?_of_mem h2
      obtain ⟨e, _, De⟩ := h1.get hi
      refine ⟨_, rfl, _, rfl, y, e, n, rfl, De.same h3, fun H3 S3 => ?_⟩
      rw [← De.isBV]
      exact h4 _ S3
    cases D with
    | @lst a xs ds ha hx =>
      refine ⟨_, (pss_one (ps_ret (pe_callB (cr_all rfl) (by rfl) T.all PyProof.Rows.boot_all (pa_cons (pe_lc (own := [("value", 2)]) (g := gName 2) (tt := tYes) rfl sc_are_below.nd (pi_list (pv 0)) (blkOk_by (N := N_are_below) (sc := defScope s_are_below) (by decide +kernel)) (fun _ _ _ _ _ => (pg_name (i := 2) sc_are_below.nd rfl (Or.inl rfl))) (fun _ _ _ _ _ => pts_nil) (fun _ _ _ _ _ => (pe_call G_is_below (hr.mono (by decide)) rfl d_is_below.g d_is_below.F.kp d_is_below.b .nil pass0 (pa_cons (pv 2) (pa_cons (pv 1) pa_nil))))) pa_nil)))), ?_⟩
      refine ⟨_, rfl, a, rfl, ⟨_, SqL.of ha⟩, fun q hq => ?_⟩
      refine lcPL (K := K) (fun x => V.bl (isBV n x)) hq (by rw [hx.len]; exact Nat.le_trans hl (by decide)) (SqL.of ha) (fun y hy H2 S2 Q2 kQ => el xs ds y H2 Q2 _ hx hy S2 kQ) (fun H2 e2 S2 => fin xs ds H2 q hx rfl S2 e2)
    | @tup a xs ds ha hx =>
      refine ⟨_, (pss_one (ps_ret (pe_callB (cr_all rfl) (by rfl) T.all PyProof.Rows.boot_all (pa_cons (pe_lc (own := [("value", 2)]) (g := gName 2) (tt := tYes) rfl sc_are_below.nd (pi_tup (pv 0)) (blkOk_by (N := N_are_below) (sc := defScope s_are_below) (by decide +kernel)) (fun _ _ _ _ _ => (pg_name (i := 2) sc_are_below.nd rfl (Or.inl rfl))) (fun _ _ _ _ _ => pts_nil) (fun _ _ _ _ _ => (pe_call G_is_below (hr.mono (by decide)) rfl d_is_below.g d_is_below.F.kp d_is_below.b .nil pass0 (pa_cons (pv 2) (pa_cons (pv 1) pa_nil))))) pa_nil)))), ?_⟩
      refine ⟨_, rfl, a, rfl, ⟨_, SqT.of ha⟩, fun q hq => ?_⟩
      refine lcPT (K := K) (fun x => V.bl (isBV n x)) hq (by rw [hx.len]; exact Nat.le_trans hl (by decide)) (SqT.of ha) (fun y hy H2 S2 Q2 kQ => el xs ds y H2 Q2 _ hx hy S2 kQ) (fun H2 e2 S2 => fin xs ds H2 q hx rfl S2 e2)
    | non => cases hS
    | bl b => cases hS
    | int i => cases hS
    | str z => cases hS
    | dct _ => cases hS
theorem ok_entry {f fi fn fb fs fr : Addr} {fd fdi fdn fdb fds fdr : FuncData} (A0 : Df K mg "_is_entry" s_is_entry f fd P_is_entry) (d_is_sequence : Df K mg "is_sequence" s_is_sequence fs fds P_is_sequence) (d_are_below : Df K mg "are_below" s_are_below fr fdr P_are_below) (d_is_below : Df K mg "is_below" s_is_below fb fdb P_is_below) (d_is_number : Df K mg "is_number" s_is_number fn fdn P_is_number) (d_is_integer : Df K mg "is_integer" s_is_integer fi fdi P_is_integer) (T : Txt mg) : FnOk P w K mg base CX0 5 f fd P_is_entry spEntry := by
  have G_is_sequence : FnOk P w K mg base CX0 1 fs fds P_is_sequence (spT1 isS) := ok_sequence d_is_sequence T
  have G_are_below : FnOk P w K mg base CX0 4 fr fdr P_are_below spAre := ok_are d_are_below d_is_below d_is_number d_is_integer T
  refine A0.F.ok sc_is_entry (fun vs H Q E h => ?_) (fun cdv A outer s H vs Q E hr h => ?_)
  · obtain ⟨x, d, A, n, rfl, _⟩ := h
    rfl
  · obtain ⟨x, d, A, n, rfl, D, hl, k⟩ := h
    refine ⟨_, (pss_one (ps_ret (pe_and (pe_call G_is_sequence (hr.mono (by decide)) rfl d_is_sequence.g d_is_sequence.F.kp d_is_sequence.b .nil pass0 (pa_cons (pv 0) pa_nil)) (pe_and (pe_cmpR op_eq (pe_callB call_len_seq (by rfl) T.len PySem.boot_len (pa_cons (pv 0) pa_nil)) (pv 1) (nomark _)) (pe_one (pe_call G_are_below (hr.mono (by decide)) rfl d_are_below.g d_are_below.F.kp d_are_below.b .nil pass0 (pa_cons (pv 0) (pa_cons (pv 2) pa_nil)))))))), ?_⟩
    refine ⟨_, rfl, x, d, rfl, D, fun H1 S1 => ⟨isS d, rfl, ?_⟩⟩
    have D1 := D.same S1
    have main : ∀ (a : Addr) (xs : List V) (ds : List PyData), x = .ref a → (SqL K H1 a xs ∨ SqT K H1 a xs) → itemsD d = ds → xs.length = ds.length → isS d = true →
        tAndV (tOp rEq (tCB (rLn K) (tCons (tVar 0) tNil)) (tVar 1)) (tCall spAre [] E0 (tCons (tVar 0) (tCons (tVar 2) tNil))) [some x, some (.int A), some (.int n)] H1 Q := by
      intro a xs ds ex hx hi hle hs
      refine ⟨_, rfl, a, xs, by rw [ex], hx, _, rfl, rfl, _, rfl, ?_⟩
      have e : (decide (V.int ((xs.length : Nat) : Int) = V.int A)) = decide ((ds.length : Int) = A) := by
        rw [hle]
        by_cases q : (ds.length : Int) = A
        · rw [decide_eq_true q, q]
          exact decide_eq_true rfl
        · rw [decide_eq_false q]
          exact decide_eq_false fun z => q (by injection z)
      show (if decide (V.int ((xs.length : Nat) : Int) = V.int A) = true then _ else _)
      rw [e]
      have kk : ∀ H', Same H1 H' → Q (.bl (decide ((ds.length : Int) = A) && ds.all (isB n))) H' := fun H' S' => by
        have z := k H' (S1.trans S')
        unfold isE at z
        rw [hs, Bool.true_and, hi] at z
        exact z
      by_cases q : (ds.length : Int) = A
      · rw [decide_eq_true q] at kk ⊢
        refine iteT ⟨_, rfl, _, rfl, x, d, n, rfl, D1, hs, hl, fun H2 S2 => ?_⟩
        rw [hi]
        have z := kk H2 S2
        rw [Bool.true_and] at z
        exact z
      · rw [decide_eq_false q] at kk ⊢
        exact iteF (kk H1 (Same.refl _))
    cases D1 with
    | @lst a xs ds ha hx => exact iteT (main a xs ds rfl (.inl (SqL.of ha)) rfl hx.len rfl)
    | @tup a xs ds ha hx => exact iteT (main a xs ds rfl (.inr (SqT.of ha)) rfl hx.len rfl)
    | non => exact iteF (k _ S1)
    | bl b => exact iteF (k _ S1)
    | int i => exact iteF (k _ S1)
    | str z => exact iteF (k _ S1)
    | dct _ => exact iteF (k _ S1)
end
end Lk

set_option Elab.async false
set_option linter.all false
set_option maxRecDepth 100000
set_option maxHeartbeats 2000000
namespace PySem
namespace ErrX
open PySem.W PySem.Calls PyProof.Rows PySem.HandSPX
/-! ### the text of __init__ -/
def iA (p1 p2 : Pos) : Arguments := { posonlyargs := [], args := [{ arg := "self", annotation := none, pos := p1 }, { arg := "at", annotation := none, pos := p2 }], vararg := none, kwonlyargs := [], kw_defaults := [], kwarg := none, defaults := [] }
def iB (q1 q2 q3 q4 : Pos) : List Stmt := [.Assign [.Attribute (.Name "self" q1) "at" q2] (.Name "at" q3) q4]
def iS : Scope := { kind := .function, names := [(PySem.Str.ofString "self", .local), (PySem.Str.ofString "at", .local)], isGenerator := false, isCoroutine := false, more := [] }
/-- what the written part says of Low, at C, and of its __init__, at fI -/
structure ErrTxt (K : Frag) (mg : Str → Option Value) (cn : Str) (qn : Str) (C fI : Addr) : Prop where
  gC : mg cn = some (.ref C)
  cls : ∃ nm q N bs bm sn sub ab col dd k0 k1 k2 k3 k5, K.lookup C = some (excClassObj nm q C N bs bm true sn sub ab col dd k0 k1 k2 k3 k5 "ValueError.__new__") ∧ refsVE bm = true
  sa : findIn K (.ref C) "__setattr__" = some (some (.builtin "object.__setattr__"))
  ga : findIn K (.ref C) "__getattribute__" = some (some (.builtin "BaseException.__getattribute__"))
  gg : findIn K (.ref C) "__getattr__" = some none
  noN : findIn K (.ref C) "at" = some none
  iC : findIn K (.ref C) "__init__" = some (some (.ref fI))
  tC : typeIn K (.ref fI) = some (.type "function")
  kC : keepIn K (.ref C) = true
  exC : subIn K (.ref C) (.type "BaseException") = some true
  tyC : typeIn K (.ref C) = some (.type "type")
  hdC : hasDictIn K C = true
  te : exmOne K (.ref C) (.ref C) = some true
  fn : ∃ (oc : Value) (od : Option Addr) (doc pm : Value) (an : Option Addr) (cdv ct : Value) (osl : Array (Option Value)) (p1 p2 q1 q2 q3 q4 : Pos),
    K.lookup fI = some ⟨oc, od, .func (fnOf "__init__" qn (iA p1 p2) (iB q1 q2 q3 q4) iS .none .none doc pm an cdv ct), osl⟩ ∧ codeIn K cdv qn = true
theorem one_size (v : Value) : [v].length ≤ sizeLine := by
  rw [sizeLine_eq]
  exact (by decide : 1 ≤ 16777216)
theorem kept_but {K : Frag} {h h' : Heap} {x : Addr} (X : K.In h) (hx : K.lookup x = none) (k : ∀ b o, b ≠ x → h.get? b = some o → h'.get? b = some o) : K.In h' := fun a o e =>
  k a o (fun z => by rw [z, hx] at e; cases e) (X a o e)
theorem ldC {M : Model} {s : Shared} {name : Str} {scope : Scope} {L a : Addr} {cd : Value} {m : Str → Option Value} {x : Str} {pos : Pos} {v : Value} {Q : Value → Shared → Prop} {A : Around} {E : Value → Shared → Prop} (hn : s.heap.Ns L m) (hv : m x = some v) (h : Q v s)
    (hk : scope.kind = .function := by rfl) (hl : (envOfC name scope L a cd).kindOf x = some .local := by rfl) (hd : (x == ("__debug__" : Str)) = false := by decide) :
    wpAny M A (eval (.Name x pos) (envOfC name scope L a cd)) Q E s := wpAny_Name (wpAny_loadName_local hk hl hn hv h) hd
/-- what __init__ leaves of a fresh exception at x -/
structure InitEnd (h h' : Heap) (x C dx t1 : Addr) (v : Value) : Prop where
  keep : ∀ b o, b ≠ x → h.get? b = some o → h'.get? b = some o
  obj : h'.get? x = some { cls := .ref C, dict := some dx, data := .fields #[.ref t1, .none, .none, .none, .bool false, .none] }
  dbig : h.objs.size ≤ dx
  dne : dx ≠ x
  ns : h'.Ns1 dx (fun y => if y = "at" then some v else none)
/-- a made Low -/
structure OwnMade (h h' : Heap) (e C d : Addr) (v : Value) : Prop where
  keep : ∀ b o, h.get? b = some o → h'.get? b = some o
  new : h.objs.size ≤ e
  obj : ∃ oe vs, h'.get? e = some oe ∧ oe.cls = .ref C ∧ oe.dict = some d ∧ oe.data = .fields vs ∧ vs[1]? = some .none
  dbig : h.objs.size ≤ d
  dne : d ≠ e
  ns : h'.Ns1 d (fun y => if y = "at" then some v else none)
section
variable {prog : Program} {w : World} {A : Around} {E : Value → Shared → Prop} {R : Result → Shared → Prop} {s : Shared} {K : Frag} {mg : Str → Option Value} {C fI : Addr} {cn qn : Str}
theorem low_init (T : ErrTxt K mg cn qn C fI) {x t0 : Addr} {v : Value} (X : K.In s.heap) (hlim : s.heap.NoLimit) (hx : s.heap.get? x = some (excO C t0)) (hnx : K.lookup x = none) (hroom : A.depth < recursionLimit)
    (hq : ∀ h' tk dx, InitEnd s.heap h' x C dx t0 v → R (.ok (.ret .none)) { s with heap := h', toks := tk }) :
    codeAny (model prog w) A (.call (.ref fI) ⟨[.ref x, v], []⟩) R s := by
  obtain ⟨oc, od, doc, pm, an, cdv, ct, osl, p1, p2, q1, q2, q3, q4, ho, hcd⟩ := T.fn
  obtain ⟨nm, q, N, bs, bm, sn, sub, ab, col, dd, k0, k1, k2, k3, k5, hC, hbm⟩ := T.cls
  have hcl : clsIn K C = some { name := nm, bases := bs, mro := .ref C :: bm, ns := N, qualname := q, hasDict := true, slotNames := sn, subclasses := sub, abstract := ab, collection := col, hasDel := false } := by unfold clsIn; rw [hC] <;> rfl
  refine Att.call_fn (binds := [("self", .ref x), ("at", v)]) X hlim ho hcd hroom (BindsTo.of_eq (by first | rfl | with_unfolding_all rfl)) (by first | rfl | decide | with_unfolding_all rfl) (fun s₁ IC => ?_) rfl rfl rfl
  obtain ⟨h₁, tk₁, rfl⟩ := IC.toInCall.same
  have k : ∀ b o, s.heap.get? b = some o → h₁.get? b = some o := IC.toInCall.keep
  have hn := IC.toInCall.ns
  have hxL : s.heap.objs.size ≠ x := Nat.ne_of_gt (Heap.lt_size hx)
  have X₁ : K.In h₁ := X.keeps k
  have hx₁ := k _ _ hx
  -- self.by = by
  show wpAny _ _ (execs _ _) _ _ _
  refine wpAny_execs_cons (plainObj_wpAny_Assign_Attribute ?_)
  refine ldC (v := v) hn (by first | rfl | with_unfolding_all rfl | kernel_rfl) (ldC (v := .ref x) hn (by first | rfl | with_unfolding_all rfl | kernel_rfl) ?_)
  refine set_plain X₁ (ox := excO C t0) (od := none) ⟨hx₁, rfl, rfl, trivial⟩ T.sa ?_
  refine exc_osa X₁ hx₁ hcl (show refsVE (.ref C :: bm) = true from hbm) rfl T.noN (fun h₃ tk₃ dx k₃ dn dne hx₃ hn₃ => ?_)
  show wpAny _ _ (execs _ _) _ _ _
  have z : s.heap.objs.size < h₁.objs.size := hn.lt
  exact wpAny_execs_nil (hq h₃ tk₃ dx ⟨fun b o hb e => k₃ b o hb (k b o e), hx₃, Nat.le_of_lt (Nat.lt_of_lt_of_le z dn), dne, hn₃⟩)
theorem low_made (T : ErrTxt K mg cn qn C fI) {v : Value} (X : K.In s.heap) (hlim : s.heap.NoLimit) (hroom : A.depth + 1 < recursionLimit)
    (hq : ∀ h' tk e d, OwnMade s.heap h' e C d v → R (.ok (.ret (.ref e))) { s with heap := h', toks := tk }) :
    codeAny (model prog w) A (.call (.ref C) ⟨[v], []⟩) R s := by
  obtain ⟨nm, q, N, bs, bm, sn, sub, ab, col, dd, k0, k1, k2, k3, k5, hC, hbm⟩ := T.cls
  obtain ⟨hp, g, dr, tk, os⟩ := s
  have k : ∀ b o, hp.get? b = some o → ((hp.push (kdv_tup [v])).push (excO C hp.objs.size)).get? b = some o := fun b o e => Heap.get?_push_of_some _ (Heap.get?_push_of_some _ e)
  have hget : ((hp.push (kdv_tup [v])).push (excO C hp.objs.size)).get? (hp.objs.size + 1) = some (excO C hp.objs.size) := by heap_get
  have hnx : K.lookup (hp.objs.size + 1) = none := by
    cases e : K.lookup (hp.objs.size + 1) with
    | none => rfl
    | some o =>
      have z : hp.get? (hp.objs.size + 1) = some o := X _ _ e
      exact absurd (Nat.lt_of_succ_lt (Heap.lt_size z)) (Nat.lt_irrefl _)
  refine call_own F.excBase_ValueError (fun X => refsVE_contains X bm hbm) (X _ _ hC) (looks_findIn X T.iC) (fun self => bind_fn X self T.tC) (one_size v) ?_
  refine low_init (s := ⟨(hp.push (kdv_tup [v])).push (excO C hp.objs.size), g, dr, tk, os⟩) T (X.keeps k) (hlim.keeps k) hget hnx ?_ fun h' tk' dx ⟨k', hx, dn, dne, hns⟩ => ?_
  · show A.depth + 1 < recursionLimit
    exact hroom
  · have old : ∀ b o, hp.get? b = some o → h'.get? b = some o := fun b o e => k' b o (Nat.ne_of_lt (Nat.lt_succ_of_lt (Heap.lt_size e))) (k b o e)
    have z : hp.objs.size + 1 + 1 ≤ dx := by
      first
        | (simpa only [Heap.size_push] using dn)
        | exact dn
        | (have q := dn; rw [Heap.size_push, Heap.size_push] at q; exact q)
    exact ⟨rfl, hq h' tk' (hp.objs.size + 1) dx ⟨old, Nat.le_succ _, ⟨_, _, hx, rfl, rfl, rfl, rfl⟩, Nat.le_trans (Nat.le_trans (Nat.le_succ _) (Nat.le_succ _)) z, dne, hns⟩⟩
end
end ErrX
end PySem
namespace L2
open PySem PySem.Spec PyProof.Rows
theorem relO_low {v : V} {v' : Value} (r : RelV v v') (f : Str) : RelO (List.lookup f [(("at" : Str), v)]) (if f = "at" then some v' else none) := by
  by_cases hw : f = "at"
  · subst hw
    rw [if_pos rfl]
    have q : List.lookup ("at" : Str) [(("at" : Str), v)] = some v := by simp [List.lookup]
    rw [q]
    exact r
  · rw [if_neg hw]
    have qw : (f == ("at" : Str)) = false := by simpa using hw
    have q2 : List.lookup f [(("at" : Str), v)] = none := by simp [List.lookup, qw]
    rw [q2]
    trivial
section
variable {X : Cx} {C fI : Addr} {cn qn : Str}
/-- Low(e) -/
def tMkLow (C : Addr) (ta : TA) : St → Hp → XK → Prop := fun σ H Q => ta σ H fun vs H1 => ∃ v, vs = [v] ∧ ∀ d, H1 d = none → Q (.ref C) (some d) (upd H1 d (.xd [(("at" : Str), v)]))
theorem pmk_low {a : Expr} {ta : TA} {p pos : Pos} {k : Nat} (T : PySem.ErrX.ErrTxt X.K X.mg cn qn C fI) (hr : Room k X.A) (ha : PA X [a] ta) (hg : Gl X cn) (hdb : (cn == ("__debug__" : Str)) = false := by decide)
    (he : starEach (a :: []) X.env = (false, eval a X.env) :: starEach [] X.env := by rfl) (hpl : (backTo pos (starEach [] X.env)).any (·.1) = false := by rfl) :
    PMk X (.Call (.Name cn p) [a] [] pos) (tMkLow C ta) := by
  intro pins s σ H Q I h
  refine wpAny_Call_Name_kw (ld_glob I hg T.gC ?_ hdb)
  refine PySem.W.callWith_K (h₀ := X.base) I.ok.mod.kin T.kC (thn (ha.run pos pins s σ H _ I h) fun us s1 hh => ?_) he hpl
  obtain ⟨vs, H1, I1, r1, v, ev, q1⟩ := hh
  subst ev
  refine ⟨I1.kIn, ?_⟩
  cases r1 with
  | cons rv rn =>
    rename_i v' us'
    cases rn
    show wpAny _ _ (call (.ref C) [v']) _ _ _
    have hlim := I1.nolimit
    obtain ⟨hp, g, dr, tk, os⟩ := s1
    refine wpAny_call (PySem.ErrX.low_made T I1.kIn hlim (by have := hr.dp; omega) fun h' tk' e d M => ?_)
    show MkP X pins σ Q (.ref e) ⟨h', g, dr, tk', os⟩
    obtain ⟨oe, fv, hoe, hc, hd, hdat, h1⟩ := M.obj
    have hns := M.ns
    obtain ⟨G', g1, g2⟩ := restrict h' fun b => decide (b ≠ e)
    have gk : ∀ b, b ≠ e → G'.get? b = h'.get? b := fun b hb => g1 b (decide_eq_true hb)
    have ge : G'.get? e = none := g2 e (by simp)
    have old : ∀ b o, hp.get? b = some o → G'.get? b = some o := fun b o q => (gk b (Nat.ne_of_lt (Nat.lt_of_lt_of_le (Heap.lt_size q) M.new))).trans (M.keep b o q)
    have ob : ObjOk X.prog X.w (upd H1 d (.xd [(("at" : Str), v)])) G' d (.xd [(("at" : Str), v)]) :=
      ⟨_, hns.at (fun o q => (gk d M.dne).trans q), fun f => relO_low rv f⟩
    have J : Inv X pins σ (upd H1 d (.xd [(("at" : Str), v)])) ⟨G', g, dr, tk', os⟩ := I1.laid (t' := tk') old M.dbig ob
    refine ⟨e, oe, fv, ⟨G', g, dr, tk', os⟩, _, .ref C, some d, rfl, J, fun b o q => ?_, ge, hoe, ⟨hc, hd⟩, hdat, h1, ?_, rfl, I1.bare, raises_own T.exC T.tyC, q1 d (I1.hok.fresh M.dbig)⟩
    · by_cases hb : b = e
      · have q' : G'.get? b = some o := q
        rw [hb, ge] at q'; cases q'
      · exact (gk b hb).symm.trans q
    · rw [upd_ne (Ne.symm M.dne)]
      exact I1.hok.fresh M.new
/-- raise Low(e) -/
def tRaiseLow (C : Addr) (W : WX) (ta : TA) : TS := fun _ σ H => tMkLow C ta σ H fun cls d H' => W cls d σ H'
theorem ps_raiseLow {a : Expr} {ta : TA} {W : WX} {p pos pos2 : Pos} {k : Nat} (hc : X.calm = true) (T : PySem.ErrX.ErrTxt X.K X.mg cn qn C fI) (hr : Room k X.A) (tk : Takes X W) (ha : PA X [a] ta) (hg : Gl X cn) (hdb : (cn == ("__debug__" : Str)) = false := by decide)
    (he : starEach (a :: []) X.env = (false, eval a X.env) :: starEach [] X.env := by rfl) (hpl : (backTo pos (starEach [] X.env)).any (·.1) = false := by rfl) :
    PS X (.Raise (some (.Call (.Name cn p) [a] [] pos)) none pos2) (tRaiseLow C W ta) := ps_raise hc tk (pmk_low T hr ha hg hdb he hpl)
/-- low.by, low the exception that the suite holds (at a; its class cls, its dict d) -/
def tByLow (C : Addr) (a : Addr) (cls : Value) (d : Option Addr) (te : TE) : TE := fun σ H Q => te σ H fun x H1 => x = .ref a ∧ cls = .ref C ∧ ∃ (dd : Addr) (v : V), d = some dd ∧ H1 dd = some (.xd [(("at" : Str), v)]) ∧ Q v H1
theorem pe_byLow {a : Addr} {oe : Obj} {cls : Value} {d : Option Addr} {pn : List (Addr × Obj)} {e : Expr} {te : TE} {pos : Pos} (T : PySem.ErrX.ErrTxt X.K X.mg cn qn C fI) (hz : Zc cls d oe) (hf : ∃ vs, oe.data = .fields vs) (he : PE (X.suite a ((a, oe) :: pn)) e te)
    (hb : attributeBase e "at" X.env (eval e X.env) = eval e X.env := by rfl) :
    PE (X.suite a ((a, oe) :: pn)) (.Attribute e "at" pos) (tByLow C a cls d te) := by
  refine ⟨fun pins s σ H Q I h => ?_⟩
  refine attr_of hb (thn (he.run pins s σ H _ I h) fun u s1 hh => ?_)
  obtain ⟨x, H1, I1, rx, ex, ec, dd, v, ed, ea, q⟩ := hh
  subst ex
  obtain rfl : u = Value.ref a := rx
  subst ec
  subst ed
  obtain ⟨ha, _⟩ := I1.pin (a, oe) (List.mem_append_left _ List.mem_cons_self)
  obtain ⟨vs, hd⟩ := hf
  have hx : ObjOk X.prog X.w H1 s1.heap dd (.xd [(("at" : Str), v)]) := I1.hok dd _ ea
  obtain ⟨mA, hns, hr⟩ := hx
  obtain ⟨od, ho, hl⟩ := lookIn_ns hns
  have l : List.lookup ("at" : Str) [(("at" : Str), v)] = some v := by simp [List.lookup]
  obtain ⟨u, hu, ru⟩ := RelO.some_of (v := v) (o := mA "at") (by rw [← l]; exact hr "at")
  have J : PySem.W.InstAt s1.heap a oe C (some od) := ⟨ha, hz.1, by unfold PySem.W.notCls; rw [hd] <;> rfl, by rw [hz.2]; exact ho⟩
  exact HandSPX.exc_get I1.kIn J T.ga T.gg T.exC (PySem.W.findObj_own T.hdC T.noN rfl (by rw [hl, hu])) (handed_of ru) ⟨v, H1, I1.tok _, ru, q⟩
end
end L2


set_option Elab.async false
set_option linter.all false
set_option maxRecDepth 100000
set_option maxHeartbeats 4000000
namespace Lk
open PySem L2
abbrev s_Machine___init : Stmt := inClass (top 12) 0
abbrev N_Machine___init : List Str := ["self", "commands", "steps", "state", "entry"]
abbrev P_Machine___init : List Str := ["self", "commands", "steps"]
theorem sc_Machine___init : FnScope N_Machine___init P_Machine___init (defScope s_Machine___init) := ⟨rfl, rfl, rfl, by decide +kernel, rfl, by decide +kernel, by decide +kernel⟩
section
variable {K : PySem.W.Frag} {j : Nat} {te : TE} {σ : St} {H1 : Hp} {D : Addr} {Qd : Hp → Prop}
theorem lcTT {a : Addr} {xs : List V} (S : Addr → Prop) (I : Hp → Prop) (f : Nat → V → Hp → Prop) (hD : H1 D = none) (hS : ¬ S D) (hn : xs.length ≤ 1000000) (hI : I H1) (mI : ∀ H o, I H → I (upd H D o))
    (mf : ∀ i y H H', KP (fun a => S a ∨ a = D) H H' → f i y H → f i y H') (ha : ∀ H, KP S H1 H → SqT K H a xs)
    (hs : ∀ i x H acc, xs[i]? = some x → I H → KP S H1 H → H D = some (.lst acc) → ∀ Q : VK, (∀ y H4, I H4 → KP S H H4 → f i y H4 → Q y H4) → te ((wipe σ [j]).set j (some x)) H Q)
    (hd : ∀ ys H', ys.length = xs.length → (∀ i y, ys[i]? = some y → f i y H') → H' D = some (.lst ys) → I H' → KP S H1 H' → Qd H') :
    ∃ W : Nat → Nat → Hp → Prop, (∃ m, W 0 m (upd H1 D (.lst []))) ∧ ∀ i m H, W i m H →
      ((Itt K a).stop i H ∧ Qd H) ∨ ((Itt K a).go i H ∧ ∃ Nx : Hp → Prop, (∀ H', Nx H' → ∃ m', m' < m ∧ W (i + 1) m' H') ∧ ∀ x H', (Itt K a).yld i H x H' → gName j x (wipe σ [j]) H' fun σ2 H2 => wipe σ2 [j] = wipe σ [j] ∧ tYes σ2 H2 fun b H3 =>
        if b = true then te σ2 H3 fun y H4 => ∃ acc, H4 D = some (.lst acc) ∧ acc.length < sizeLine ∧ Nx (upd H4 D (.lst (acc ++ [y]))) else Nx H3) := by
  refine lc_tup (xs := xs) (Lcp S I f H1 D) (Lcp.zero hD mI hI) (fun i H _ x => ha H x.2.1) (fun i x0 H hi x => ?_) (fun H x => ?_)
  · have hi' : i < xs.length := (List.getElem?_eq_some_iff.mp hi).1
    refine ⟨wipe1 _ _ _, iteT (B := Lcp S I f H1 D (i + 1) H) ?_⟩
    obtain ⟨acc, e⟩ : ∃ acc, H D = some (.lst acc) := by
      obtain ⟨_, _, ys, e, _⟩ := x
      exact ⟨ys, e⟩
    exact hs i x0 H acc hi x.1 x.2.1 e _ fun y H4 h1 h2 h3 => x.step hD hS mI mf (by omega) h1 h2 h3
  · obtain ⟨h1, h2, ys, e, hl, hf⟩ := x
    exact hd ys H hl hf e h1 h2
end
/-! ### a machine's making, as data -/
def badC : PyData → Bool
  | .int i => decide (i ≤ 0)
  | _ => true
def badAt (A n : Int) : List PyData → Nat → Option Nat
  | [], _ => none
  | e :: r, i => if isE A n e = true then badAt A n r (i + 1) else some i
/-- the number of the refusal, if the commands are right -/
def stepsRes (A : Int) (d : PyData) : Option Int :=
  if isS d = false ∨ itemsD d = [] then some 1 else (badAt A ((itemsD d).length : Int) (itemsD d) 0).map fun i => 2 + (i : Int)
def intD : PyData → Int
  | .int i => i
  | _ => 0
def rowD (e : PyData) : List Int := (itemsD e).map intD
theorem badAt_cons {A n : Int} {e : PyData} {r : List PyData} {i : Nat} : badAt A n (e :: r) i = if isE A n e = true then badAt A n r (i + 1) else some i := rfl
theorem badAt_none {A n : Int} : ∀ {ds : List PyData} {i : Nat}, badAt A n ds i = none → ∀ e ∈ ds, isE A n e = true
  | [], _, _, e, h => nomatch h
  | d :: ds, i, h, e, he => by
    unfold badAt at h
    by_cases hE : isE A n d = true
    · rw [if_pos hE] at h
      rcases List.mem_cons.mp he with z | z
      · rw [z]
        exact hE
      · exact badAt_none h e z
    · rw [if_neg hE] at h
      cases h
theorem drop_get {α : Type} : ∀ {xs : List α} {i : Nat} {x : α}, xs[i]? = some x → xs.drop i = x :: xs.drop (i + 1)
  | [], _, _, h => by simp at h
  | y :: xs, 0, x, h => by
    have e : y = x := Option.some.inj h
    rw [e]
    rfl
  | y :: xs, i + 1, x, h => drop_get (xs := xs) (i := i) h
theorem DvAll.ints {H : Hp} {n : Int} : ∀ {xs : List V} {ds : List PyData}, DvAll H xs ds → ds.all (isB n) = true → xs = (ds.map intD).map V.int
  | _, _, .nil, _ => rfl
  | _, _, .cons (d := d) h t, e => by
    rw [List.all_cons, Bool.and_eq_true] at e
    rw [DvAll.ints t e.2]
    cases h with
    | int i => rfl
    | non => cases e.1
    | bl b => cases e.1
    | str b => cases e.1
    | lst _ _ => cases e.1
    | tup _ _ => cases e.1
    | dct _ => cases e.1
theorem entry_read {H : Hp} {y : V} {e : PyData} {A n : Int} (h : Dv H y e) (hE : isE A n e = true) : ∃ (b : Addr) (zs : Unit), y = .ref b ∧ (H b = some (.lst ((rowD e).map V.int)) ∨ H b = some (.tup ((rowD e).map V.int))) := by
  unfold isE at hE
  rw [Bool.and_eq_true, Bool.and_eq_true] at hE
  obtain ⟨h1, _, h3⟩ := hE
  cases h with
  | @lst b xs ds hb hx => exact ⟨b, (), rfl, .inl (by rw [hb, hx.ints h3] <;> rfl)⟩
  | @tup b xs ds hb hx => exact ⟨b, (), rfl, .inr (by rw [hb, hx.ints h3] <;> rfl)⟩
  | non => cases h1
  | int _ => cases h1
  | bl b => cases h1
  | str b => cases h1
  | dct _ => cases h1
/-! ### machines in the heap -/
def fldM (A n : Int) (t : Addr) : List (Str × V) := putF "steps" (.ref t) (putF "states" (.int n) (putF "commands" (.int A) []))
/-- at m a machine of the class at C with A commands and these rows -/
def MachAt (C : Addr) (H : Hp) (m : Addr) (A : Int) (us : List (Addr × List Int)) : Prop :=
  ∃ dx t, H m = some (.ins C dx (fldM A (us.length : Int) t)) ∧ H t = some (.tup (us.map fun u => V.ref u.1)) ∧ ∀ u ∈ us, H u.1 = some (.tup (u.2.map V.int))
/-- what the top says of the class -/
structure TxC (K : PySem.W.Frag) (C : Addr) : Prop where
  cl : Cls K C
  n1 : NoAttr K C "commands"
  n2 : NoAttr K C "states"
  n3 : NoAttr K C "steps"
def spInit (CM CE : Addr) : Sp := fun vs H Q E => ∃ (m dx : Addr) (x y : V) (dc ds : PyData), vs = [.ref m, x, y] ∧ H m = some (.ins CM dx []) ∧ Dv H x dc ∧ Dv H y ds ∧ (itemsD ds).length ≤ 1000 ∧ (∀ e ∈ itemsD ds, (itemsD e).length ≤ 1000) ∧
  (badC dc = true → ∀ H' d, Same H H' → H' d = none → E (.ref CE) (some d) (upd H' d (.xd [(("at" : Str), .int 0)]))) ∧
  (badC dc = false → ∀ A, dc = .int A → match stepsRes A ds with
    | some k => ∀ H' d, Same H H' → H' d = none → E (.ref CE) (some d) (upd H' d (.xd [(("at" : Str), .int k)]))
    | none => ∀ H' us, KP (fun b => b = m) H H' → MachAt CM H' m A us → us.map (·.2) = (itemsD ds).map rowD → Q .non H')
section
variable {P : Program} {w : World} {K : PySem.W.Frag} {mg : Str → Option Value} {base : Heap}
theorem ok_init {f fi fn fb fs fr fe CM CE fCE : Addr} {fd fdi fdn fdb fds fdr fde : FuncData} (F : Fun K "__init__" "Machine.__init__" s_Machine___init f fd) (d_is_entry : Df K mg "_is_entry" s_is_entry fe fde P_is_entry) (d_is_sequence : Df K mg "is_sequence" s_is_sequence fs fds P_is_sequence) (d_are_below : Df K mg "are_below" s_are_below fr fdr P_are_below) (d_is_below : Df K mg "is_below" s_is_below fb fdb P_is_below) (d_is_number : Df K mg "is_number" s_is_number fn fdn P_is_number) (d_is_integer : Df K mg "is_integer" s_is_integer fi fdi P_is_integer)
    (T : Txt mg) (TC : TxC K CM) (TE : PySem.ErrX.ErrTxt K mg "InvalidMachine" "InvalidMachine.__init__" CE fCE) : FnOk P w K mg base (L2.CX P w) 7 f fd P_Machine___init (spInit CM CE) := by
  have G_is_sequence : FnOk P w K mg base CX0 1 fs fds P_is_sequence (spT1 isS) := ok_sequence d_is_sequence T
  have G_is_number : FnOk P w K mg base CX0 2 fn fdn P_is_number (spT1 isN) := ok_number d_is_number d_is_integer T
  have G_is_entry : FnOk P w K mg base CX0 5 fe fde P_is_entry spEntry := ok_entry d_is_entry d_is_sequence d_are_below d_is_below d_is_number d_is_integer T
  refine F.okX sc_Machine___init (fun vs H Q E h => ?_) (fun cdv Ar outer s H vs Q E hr h => ?_)
  · obtain ⟨m, dx, x, y, dc, ds, rfl, _⟩ := h
    rfl
  · obtain ⟨m, dx, x, y, dc, ds, rfl, hm, Dx, Dy, hz1, hz2, kB, kG⟩ := h
    cases id Dy with
    | @lst a xs ds' ha hx => 
      refine ⟨_, (pss_cons (ps_if (PW.pt (pw_or (pt_not (pt_val (pe_call G_is_number (hr.mono (by decide)) rfl d_is_number.g d_is_number.F.kp d_is_number.b .nil pass0 (pa_cons (pv 1) pa_nil)))) (pw_or1 (pt_cmpR op_eq (pv 1) pe_int (nomark _))))) (pss_one (ps_raiseLow rfl TE hr (takes_of rfl rfl rfl rfl) (pa_cons pe_int pa_nil) (by rfl))) pss_nil)
    (pss_cons (ps_if (PW.pt (pw_or (pt_not (pt_val (pe_call G_is_sequence (hr.mono (by decide)) rfl d_is_sequence.g d_is_sequence.F.kp d_is_sequence.b .nil pass0 (pa_cons (pv 2) pa_nil)))) (pw_or1 (pt_cmpR op_eq (pe_callB call_len_seq (by rfl) T.len PySem.boot_len (pa_cons (pv 2) pa_nil)) pe_int (nomark _))))) (pss_one (ps_raiseLow rfl TE hr (takes_of rfl rfl rfl rfl) (pa_cons pe_int pa_nil) (by rfl))) pss_nil)
    (pss_cons (ps_for (passes_of rfl) rfl (pi_enum (by rfl) T.enumerate (pa_cons (pv 2) pa_nil)) (pg_tup rfl (pgs_cons (pg_name (i := 3) sc_Machine___init.nd rfl (Or.inl rfl)) (pgs_cons (pg_name (i := 4) sc_Machine___init.nd rfl (Or.inl rfl)) pgs_nil)))
      (pss_one (ps_if (pt_not (pt_val (pe_call G_is_entry (hr.mono (by decide)) rfl d_is_entry.g d_is_entry.F.kp d_is_entry.b .nil pass0 (pa_cons (pv 4) (pa_cons (pv 1) (pa_cons (pe_callB call_len_seq (by rfl) T.len PySem.boot_len (pa_cons (pv 2) pa_nil)) pa_nil)))))) (pss_one (ps_raiseLow rfl TE hr (takes_of rfl rfl rfl rfl) (pa_cons (pe_op op_add pe_int (pv 3)) pa_nil) (by rfl))) pss_nil)))
    (pss_cons (ps_fld (pv 0) (pv 1) rfl)
    (pss_cons (ps_fld (pv 0) (pe_callB call_len_seq (by rfl) T.len PySem.boot_len (pa_cons (pv 2) pa_nil)) rfl)
    (pss_one (ps_fld (pv 0) (pe_tupleOf (by rfl) T.tuple (pe_lc (own := [("entry", 4)]) (g := gName 4) (tt := tYes) (te := tThen (tVar 4) (kTup K)) rfl sc_Machine___init.nd (pi_list (pv 2)) (blkOk_by (N := N_Machine___init) (sc := defScope s_Machine___init) (by decide +kernel)) (fun _ _ _ _ _ => (pg_name (i := 4) sc_Machine___init.nd rfl (Or.inl rfl))) (fun _ _ _ _ _ => pts_nil) (fun _ _ _ _ _ => (pe_tupleOf (by rfl) T.tuple (pv 4))))) rfl))))))), ?_⟩
      have hne : a ≠ m := fun e => by
        rw [e, hm] at ha
        cases ha
      refine ⟨_, rfl, x, dc, rfl, Dx, fun H1 S1 => ⟨isN dc, rfl, ?_⟩⟩
      have hlen : xs.length = ds'.length := hx.len
      -- the first test
      by_cases hb : badC dc = true
      · have kb := kB hb
        have hN : ∀ i, dc = .int i → i ≤ 0 := fun i e => by
          rw [e] at hb
          exact of_decide_eq_true hb
        cases Dx with
        | int i =>
          have i0 := hN i rfl
          show (if (!decide (0 ≤ i)) = true then _ else _)
          by_cases h0 : 0 ≤ i
          · have e0 : i = 0 := by omega
            rw [decide_eq_true h0]
            refine iteF ⟨_, rfl, rfl, _, rfl, ?_⟩
            rw [e0]
            refine iteT ⟨_, rfl, fun q hq => kb H1 q S1 hq⟩
          · rw [decide_eq_false h0]
            exact iteT (iteT ⟨_, rfl, fun q hq => kb H1 q S1 hq⟩)
        | non => exact iteT (iteT ⟨_, rfl, fun q hq => kb H1 q S1 hq⟩)
        | bl b => exact iteT (iteT ⟨_, rfl, fun q hq => kb H1 q S1 hq⟩)
        | str b => exact iteT (iteT ⟨_, rfl, fun q hq => kb H1 q S1 hq⟩)
        | lst _ _ => exact iteT (iteT ⟨_, rfl, fun q hq => kb H1 q S1 hq⟩)
        | tup _ _ => exact iteT (iteT ⟨_, rfl, fun q hq => kb H1 q S1 hq⟩)
        | dct _ => exact iteT (iteT ⟨_, rfl, fun q hq => kb H1 q S1 hq⟩)
      obtain ⟨A, rfl, A0⟩ : ∃ A : Int, dc = .int A ∧ 0 < A := by
        cases dc with
        | int i => exact ⟨i, rfl, by have : ¬ i ≤ 0 := fun q => hb (decide_eq_true q); omega⟩
        | none => exact absurd rfl hb
        | bool _ => exact absurd rfl hb
        | str _ => exact absurd rfl hb
        | list _ => exact absurd rfl hb
        | tuple _ => exact absurd rfl hb
        | dict _ => exact absurd rfl hb
      have kG' := kG (by simpa using hb) A rfl
      obtain rfl : x = V.int A := by cases Dx; rfl
      show (if (!decide (0 ≤ A)) = true then _ else _)
      rw [decide_eq_true (show 0 ≤ A by omega)]
      refine iteF ⟨_, rfl, rfl, _, rfl, ?_⟩
      rw [decide_eq_false (show ¬ V.int A = V.int 0 from fun e => by injection e with e; omega)]
      refine iteF ?_
      -- the second test
      refine ⟨_, rfl, .ref a, _, rfl, Dy.same S1, fun H2 S2 => ⟨true, rfl, iteF ⟨_, rfl, a, xs, rfl, .inl (SqL.of ((S1.trans S2) _ _ ha)), rfl, _, rfl, ?_⟩⟩⟩
      have S12 := S1.trans S2
      cases hds : ds' with
      | nil =>
        have hx0 : xs.length = 0 := by rw [hlen, hds]; rfl
        rw [hx0]
        refine iteT ⟨_, rfl, fun q hq => ?_⟩
        have e : stepsRes A (.list ds') = some 1 := by rw [hds] <;> rfl
        rw [e] at kG'
        exact kG' H2 q S12 hq
      | cons d0 dr =>
      have hpos : 0 < ds'.length := by rw [hds]; simp
      rw [decide_eq_false (show ¬ V.int ((xs.length : Nat) : Int) = V.int 0 from fun e => by injection e with e; omega)]
      refine iteF ?_
      have eR : stepsRes A (.list ds') = (badAt A (ds'.length : Int) ds' 0).map fun i => 2 + (i : Int) := by
        unfold stepsRes
        rw [if_neg (by rw [hds]; intro z; rcases z with z | z <;> cases z)]
        rfl
      rw [eR] at kG'
      refine ⟨_, rfl, a, xs, rfl, SqL.of (S12 _ _ ha), for_enumL (K := K) (a := a) (xs := xs) (fun i σ H3 => ∃ v3 v4 : Option V, σ = [some (.ref m), some (.int A), some (.ref a), v3, v4] ∧ Same H H3 ∧ badAt A (ds'.length : Int) ds' 0 = badAt A (ds'.length : Int) (ds'.drop i) i) ⟨none, none, rfl, S12, rfl⟩ (fun i σ H3 ⟨_, _, _, S, _⟩ => SqL.of (S _ _ ha)) ?_ ?_⟩
      · rintro i y σ H3 t hi ⟨v3, v4, rfl, S3, eb⟩ ht
        obtain ⟨e, he, De⟩ := hx.get hi
        have S4 : Same H (upd H3 t (HO.tup [V.int ((i : Nat) : Int), y])) := S3.trans (Same.new ht)
        refine ⟨t, _, rfl, SqT.of upd_same, rfl, _, _, rfl, _, _, rfl, rfl, ?_⟩
        refine ⟨_, rfl, _, rfl, _, rfl, a, xs, rfl, .inl (SqL.of (S4 _ _ ha)), y, e, A, _, rfl, De.same S4, Nat.le_trans (hz2 e (mem_of_get he)) (by decide), fun H5 S5 => ⟨isE A ((xs.length : Nat) : Int) e, rfl, ?_⟩⟩
        rw [drop_get he] at eb
        rw [hlen]
        rw [badAt_cons] at eb
        by_cases hE : isE A (ds'.length : Int) e = true
        · rw [if_pos hE] at eb
          rw [hE]
          exact iteF ⟨_, _, rfl, S4.trans S5, eb⟩
        · rw [if_neg hE] at eb
          rw [show isE A (ds'.length : Int) e = false by simpa using hE]
          refine iteT ⟨_, rfl, _, _, rfl, rfl, _, rfl, fun q hq => ?_⟩
          rw [eb] at kG'
          exact kG' H5 q (S4.trans S5) hq
      · rintro σ H3 ⟨v3, v4, rfl, S3, eb⟩
        rw [hlen, List.drop_length] at eb
        rw [show badAt A (ds'.length : Int) ds' 0 = none from eb] at kG'
        have okE : ∀ e ∈ ds', isE A (ds'.length : Int) e = true := badAt_none eb
        have hm3 : H3 m = some (.ins CM dx []) := S3 _ _ hm
        -- the fields
        refine ⟨_, rfl, _, rfl, m, CM, dx, [], rfl, hm3, TC.cl, TC.n1, (by show 0 < 1000; decide), ?_⟩
        have hkm : ∀ {o : HO}, KP (fun b => b = m) H (upd H3 m o) := (KP.same (S := fun b => b = m) S3).trans (kp_upd rfl)
        refine ⟨_, rfl, a, xs, rfl, .inl (SqL.of (hkm.get hne ha)), _, rfl, m, CM, dx, _, rfl, upd_same, TC.cl, TC.n2, (by show 1 < 1000; decide), ?_⟩
        have hkm2 : ∀ {o1 o2 : HO}, KP (fun b => b = m) H (upd (upd H3 m o1) m o2) := ((KP.same (S := fun b => b = m) S3).trans (kp_upd rfl)).trans (kp_upd rfl)
        refine ⟨_, rfl, a, rfl, ⟨_, SqL.of (hkm2.get hne ha)⟩, fun D hD => ?_⟩
        have nDm : D ≠ m := fun e => by
          rw [e, upd_same] at hD
          cases hD
        have hD0 : H D = none := hkm2.free nDm hD
        refine lcL (K := K) (xs := xs) (fun _ => False) (fun H' => True) (fun i y H' => ∃ u : Addr × List Int, y = V.ref u.1 ∧ u.1 ≠ D ∧ u.1 ≠ m ∧ H' u.1 = some (.tup (u.2.map V.int)) ∧ ∃ e, ds'[i]? = some e ∧ u.2 = rowD e) hD id (by rw [hlen]; exact Nat.le_trans hz1 (by decide)) trivial (fun _ _ _ => trivial)
          (fun i y H' H'' kk ⟨u, e1, e2, e3, e4, e5⟩ => ⟨u, e1, e2, e3, kk.get (fun z => z.elim id e2) e4, e5⟩) (fun H' kk => SqL.of (kk.get id (hkm2.get hne ha))) (fun i y H4 acc hi _ k4 hDa Q4 kQ => ?_) (fun ys H4 hl4 hf4 hD4 _ k4 => ?_)
        · obtain ⟨e, he, De⟩ := hx.get hi
          have hE := okE e (mem_of_get he)
          obtain ⟨b, zs, hyb, hb1⟩ := entry_read De hE
          have bm : b ≠ m := fun q => by
            rcases hb1 with h1 | h1 <;>
            · rw [q, hm] at h1
              cases h1
          have hb4 : ∀ {o : HO}, H b = some o → H4 b = some o := fun h => k4.get id (hkm2.get bm h)
          refine ⟨_, rfl, ?_⟩
          rw [hyb]
          rcases hb1 with h1 | h1
          · refine .inl ⟨b, _, rfl, SqL.of (hb4 h1), fun q hq => kQ _ _ trivial (KP.new hq) ⟨(q, rowD e), rfl, fun z => ?_, fun z => ?_, upd_same, e, he, rfl⟩⟩
            · have z' : q = D := z
              rw [z', hDa] at hq
              cases hq
            · have z' : q = m := z
              have hm4 : H4 m = some _ := k4.get id upd_same
              rw [z', hm4] at hq
              cases hq
          · refine .inr ⟨b, _, rfl, SqT.of (hb4 h1), kQ _ _ trivial (KP.refl _ _) ⟨(b, rowD e), rfl, fun z => ?_, bm, hb4 h1, e, he, rfl⟩⟩
            have z' : b = D := z
            rw [z', hD0] at h1
            cases h1
        · obtain ⟨us, rfl, hu⟩ := collect (g := fun u : Addr × List Int => V.ref u.1) hf4
          refine .inl ⟨D, _, rfl, SqL.of hD4, fun t ht => ?_⟩
          have hm4 : H4 m = some _ := k4.get id upd_same
          have ntm : t ≠ m := fun e => by
            rw [e, hm4] at ht
            cases ht
          refine ⟨_, rfl, m, CM, dx, _, rfl, by rw [upd_ne ntm.symm]; exact hm4, TC.cl, TC.n3, (by show 2 < 1000; decide), ?_⟩
          rw [List.length_map] at hl4
          have hmem : ∀ u ∈ us, u.1 ≠ m ∧ H4 u.1 = some (.tup (u.2.map V.int)) := fun u hu' => by
            obtain ⟨i, hi⟩ := List.getElem?_of_mem hu'
            obtain ⟨_, h2, h3, _⟩ := hu i u hi
            exact ⟨h2, h3⟩
          refine kG' _ us (((hkm2.trans (k4.weak fun _ z => z.elim)).trans (KP.new ht)).trans (kp_upd rfl)) ⟨dx, t, ?_, ?_, fun u hu' => ?_⟩ ?_
          · rw [upd_same, hl4]
            rfl
          · rw [upd_ne ntm, upd_same]
          · obtain ⟨h2, h3⟩ := hmem u hu'
            rw [upd_ne h2]
            exact nk h3 ht
          · refine List.ext_getElem? fun i => ?_
            rw [List.getElem?_map]
            cases hi : us[i]? with
            | none =>
              have q : us.length ≤ i := List.getElem?_eq_none_iff.mp hi
              have q2 : ((itemsD (.list ds')).map rowD)[i]? = none := List.getElem?_eq_none_iff.mpr (by rw [List.length_map]; show ds'.length ≤ i; omega)
              exact q2.symm
            | some u =>
              obtain ⟨_, _, _, e, he, hr'⟩ := hu i u hi
              have q2 : ((itemsD (.list ds')).map rowD)[i]? = some (rowD e) := by
                rw [List.getElem?_map]
                show (ds'[i]?).map rowD = _
                rw [he] <;> rfl
              rw [q2]
              show some u.2 = some (rowD e)
              rw [hr']
    | @tup a xs ds' ha hx => 
      refine ⟨_, (pss_cons (ps_if (PW.pt (pw_or (pt_not (pt_val (pe_call G_is_number (hr.mono (by decide)) rfl d_is_number.g d_is_number.F.kp d_is_number.b .nil pass0 (pa_cons (pv 1) pa_nil)))) (pw_or1 (pt_cmpR op_eq (pv 1) pe_int (nomark _))))) (pss_one (ps_raiseLow rfl TE hr (takes_of rfl rfl rfl rfl) (pa_cons pe_int pa_nil) (by rfl))) pss_nil)
    (pss_cons (ps_if (PW.pt (pw_or (pt_not (pt_val (pe_call G_is_sequence (hr.mono (by decide)) rfl d_is_sequence.g d_is_sequence.F.kp d_is_sequence.b .nil pass0 (pa_cons (pv 2) pa_nil)))) (pw_or1 (pt_cmpR op_eq (pe_callB call_len_seq (by rfl) T.len PySem.boot_len (pa_cons (pv 2) pa_nil)) pe_int (nomark _))))) (pss_one (ps_raiseLow rfl TE hr (takes_of rfl rfl rfl rfl) (pa_cons pe_int pa_nil) (by rfl))) pss_nil)
    (pss_cons (ps_for (passes_of rfl) rfl (pi_enumT (by rfl) T.enumerate (pa_cons (pv 2) pa_nil)) (pg_tup rfl (pgs_cons (pg_name (i := 3) sc_Machine___init.nd rfl (Or.inl rfl)) (pgs_cons (pg_name (i := 4) sc_Machine___init.nd rfl (Or.inl rfl)) pgs_nil)))
      (pss_one (ps_if (pt_not (pt_val (pe_call G_is_entry (hr.mono (by decide)) rfl d_is_entry.g d_is_entry.F.kp d_is_entry.b .nil pass0 (pa_cons (pv 4) (pa_cons (pv 1) (pa_cons (pe_callB call_len_seq (by rfl) T.len PySem.boot_len (pa_cons (pv 2) pa_nil)) pa_nil)))))) (pss_one (ps_raiseLow rfl TE hr (takes_of rfl rfl rfl rfl) (pa_cons (pe_op op_add pe_int (pv 3)) pa_nil) (by rfl))) pss_nil)))
    (pss_cons (ps_fld (pv 0) (pv 1) rfl)
    (pss_cons (ps_fld (pv 0) (pe_callB call_len_seq (by rfl) T.len PySem.boot_len (pa_cons (pv 2) pa_nil)) rfl)
    (pss_one (ps_fld (pv 0) (pe_tupleOf (by rfl) T.tuple (pe_lc (own := [("entry", 4)]) (g := gName 4) (tt := tYes) (te := tThen (tVar 4) (kTup K)) rfl sc_Machine___init.nd (pi_tup (pv 2)) (blkOk_by (N := N_Machine___init) (sc := defScope s_Machine___init) (by decide +kernel)) (fun _ _ _ _ _ => (pg_name (i := 4) sc_Machine___init.nd rfl (Or.inl rfl))) (fun _ _ _ _ _ => pts_nil) (fun _ _ _ _ _ => (pe_tupleOf (by rfl) T.tuple (pv 4))))) rfl))))))), ?_⟩
      have hne : a ≠ m := fun e => by
        rw [e, hm] at ha
        cases ha
      refine ⟨_, rfl, x, dc, rfl, Dx, fun H1 S1 => ⟨isN dc, rfl, ?_⟩⟩
      have hlen : xs.length = ds'.length := hx.len
      -- the first test
      by_cases hb : badC dc = true
      · have kb := kB hb
        have hN : ∀ i, dc = .int i → i ≤ 0 := fun i e => by
          rw [e] at hb
          exact of_decide_eq_true hb
        cases Dx with
        | int i =>
          have i0 := hN i rfl
          show (if (!decide (0 ≤ i)) = true then _ else _)
          by_cases h0 : 0 ≤ i
          · have e0 : i = 0 := by omega
            rw [decide_eq_true h0]
            refine iteF ⟨_, rfl, rfl, _, rfl, ?_⟩
            rw [e0]
            refine iteT ⟨_, rfl, fun q hq => kb H1 q S1 hq⟩
          · rw [decide_eq_false h0]
            exact iteT (iteT ⟨_, rfl, fun q hq => kb H1 q S1 hq⟩)
        | non => exact iteT (iteT ⟨_, rfl, fun q hq => kb H1 q S1 hq⟩)
        | bl b => exact iteT (iteT ⟨_, rfl, fun q hq => kb H1 q S1 hq⟩)
        | str b => exact iteT (iteT ⟨_, rfl, fun q hq => kb H1 q S1 hq⟩)
        | lst _ _ => exact iteT (iteT ⟨_, rfl, fun q hq => kb H1 q S1 hq⟩)
        | tup _ _ => exact iteT (iteT ⟨_, rfl, fun q hq => kb H1 q S1 hq⟩)
        | dct _ => exact iteT (iteT ⟨_, rfl, fun q hq => kb H1 q S1 hq⟩)
      obtain ⟨A, rfl, A0⟩ : ∃ A : Int, dc = .int A ∧ 0 < A := by
        cases dc with
        | int i => exact ⟨i, rfl, by have : ¬ i ≤ 0 := fun q => hb (decide_eq_true q); omega⟩
        | none => exact absurd rfl hb
        | bool _ => exact absurd rfl hb
        | str _ => exact absurd rfl hb
        | list _ => exact absurd rfl hb
        | tuple _ => exact absurd rfl hb
        | dict _ => exact absurd rfl hb
      have kG' := kG (by simpa using hb) A rfl
      obtain rfl : x = V.int A := by cases Dx; rfl
      show (if (!decide (0 ≤ A)) = true then _ else _)
      rw [decide_eq_true (show 0 ≤ A by omega)]
      refine iteF ⟨_, rfl, rfl, _, rfl, ?_⟩
      rw [decide_eq_false (show ¬ V.int A = V.int 0 from fun e => by injection e with e; omega)]
      refine iteF ?_
      -- the second test
      refine ⟨_, rfl, .ref a, _, rfl, Dy.same S1, fun H2 S2 => ⟨true, rfl, iteF ⟨_, rfl, a, xs, rfl, .inr (SqT.of ((S1.trans S2) _ _ ha)), rfl, _, rfl, ?_⟩⟩⟩
      have S12 := S1.trans S2
      cases hds : ds' with
      | nil =>
        have hx0 : xs.length = 0 := by rw [hlen, hds]; rfl
        rw [hx0]
        refine iteT ⟨_, rfl, fun q hq => ?_⟩
        have e : stepsRes A (.tuple ds') = some 1 := by rw [hds] <;> rfl
        rw [e] at kG'
        exact kG' H2 q S12 hq
      | cons d0 dr =>
      have hpos : 0 < ds'.length := by rw [hds]; simp
      rw [decide_eq_false (show ¬ V.int ((xs.length : Nat) : Int) = V.int 0 from fun e => by injection e with e; omega)]
      refine iteF ?_
      have eR : stepsRes A (.tuple ds') = (badAt A (ds'.length : Int) ds' 0).map fun i => 2 + (i : Int) := by
        unfold stepsRes
        rw [if_neg (by rw [hds]; intro z; rcases z with z | z <;> cases z)]
        rfl
      rw [eR] at kG'
      refine ⟨_, rfl, a, xs, rfl, SqT.of (S12 _ _ ha), for_enumT (K := K) (a := a) (xs := xs) (fun i σ H3 => ∃ v3 v4 : Option V, σ = [some (.ref m), some (.int A), some (.ref a), v3, v4] ∧ Same H H3 ∧ badAt A (ds'.length : Int) ds' 0 = badAt A (ds'.length : Int) (ds'.drop i) i) ⟨none, none, rfl, S12, rfl⟩ (fun i σ H3 ⟨_, _, _, S, _⟩ => SqT.of (S _ _ ha)) ?_ ?_⟩
      · rintro i y σ H3 t hi ⟨v3, v4, rfl, S3, eb⟩ ht
        obtain ⟨e, he, De⟩ := hx.get hi
        have S4 : Same H (upd H3 t (HO.tup [V.int ((i : Nat) : Int), y])) := S3.trans (Same.new ht)
        refine ⟨t, _, rfl, SqT.of upd_same, rfl, _, _, rfl, _, _, rfl, rfl, ?_⟩
        refine ⟨_, rfl, _, rfl, _, rfl, a, xs, rfl, .inr (SqT.of (S4 _ _ ha)), y, e, A, _, rfl, De.same S4, Nat.le_trans (hz2 e (mem_of_get he)) (by decide), fun H5 S5 => ⟨isE A ((xs.length : Nat) : Int) e, rfl, ?_⟩⟩
        rw [drop_get he] at eb
        rw [hlen]
        rw [badAt_cons] at eb
        by_cases hE : isE A (ds'.length : Int) e = true
        · rw [if_pos hE] at eb
          rw [hE]
          exact iteF ⟨_, _, rfl, S4.trans S5, eb⟩
        · rw [if_neg hE] at eb
          rw [show isE A (ds'.length : Int) e = false by simpa using hE]
          refine iteT ⟨_, rfl, _, _, rfl, rfl, _, rfl, fun q hq => ?_⟩
          rw [eb] at kG'
          exact kG' H5 q (S4.trans S5) hq
      · rintro σ H3 ⟨v3, v4, rfl, S3, eb⟩
        rw [hlen, List.drop_length] at eb
        rw [show badAt A (ds'.length : Int) ds' 0 = none from eb] at kG'
        have okE : ∀ e ∈ ds', isE A (ds'.length : Int) e = true := badAt_none eb
        have hm3 : H3 m = some (.ins CM dx []) := S3 _ _ hm
        -- the fields
        refine ⟨_, rfl, _, rfl, m, CM, dx, [], rfl, hm3, TC.cl, TC.n1, (by show 0 < 1000; decide), ?_⟩
        have hkm : ∀ {o : HO}, KP (fun b => b = m) H (upd H3 m o) := (KP.same (S := fun b => b = m) S3).trans (kp_upd rfl)
        refine ⟨_, rfl, a, xs, rfl, .inr (SqT.of (hkm.get hne ha)), _, rfl, m, CM, dx, _, rfl, upd_same, TC.cl, TC.n2, (by show 1 < 1000; decide), ?_⟩
        have hkm2 : ∀ {o1 o2 : HO}, KP (fun b => b = m) H (upd (upd H3 m o1) m o2) := ((KP.same (S := fun b => b = m) S3).trans (kp_upd rfl)).trans (kp_upd rfl)
        refine ⟨_, rfl, a, rfl, ⟨_, SqT.of (hkm2.get hne ha)⟩, fun D hD => ?_⟩
        have nDm : D ≠ m := fun e => by
          rw [e, upd_same] at hD
          cases hD
        have hD0 : H D = none := hkm2.free nDm hD
        refine lcTT (K := K) (xs := xs) (fun _ => False) (fun H' => True) (fun i y H' => ∃ u : Addr × List Int, y = V.ref u.1 ∧ u.1 ≠ D ∧ u.1 ≠ m ∧ H' u.1 = some (.tup (u.2.map V.int)) ∧ ∃ e, ds'[i]? = some e ∧ u.2 = rowD e) hD id (by rw [hlen]; exact Nat.le_trans hz1 (by decide)) trivial (fun _ _ _ => trivial)
          (fun i y H' H'' kk ⟨u, e1, e2, e3, e4, e5⟩ => ⟨u, e1, e2, e3, kk.get (fun z => z.elim id e2) e4, e5⟩) (fun H' kk => SqT.of (kk.get id (hkm2.get hne ha))) (fun i y H4 acc hi _ k4 hDa Q4 kQ => ?_) (fun ys H4 hl4 hf4 hD4 _ k4 => ?_)
        · obtain ⟨e, he, De⟩ := hx.get hi
          have hE := okE e (mem_of_get he)
          obtain ⟨b, zs, hyb, hb1⟩ := entry_read De hE
          have bm : b ≠ m := fun q => by
            rcases hb1 with h1 | h1 <;>
            · rw [q, hm] at h1
              cases h1
          have hb4 : ∀ {o : HO}, H b = some o → H4 b = some o := fun h => k4.get id (hkm2.get bm h)
          refine ⟨_, rfl, ?_⟩
          rw [hyb]
          rcases hb1 with h1 | h1
          · refine .inl ⟨b, _, rfl, SqL.of (hb4 h1), fun q hq => kQ _ _ trivial (KP.new hq) ⟨(q, rowD e), rfl, fun z => ?_, fun z => ?_, upd_same, e, he, rfl⟩⟩
            · have z' : q = D := z
              rw [z', hDa] at hq
              cases hq
            · have z' : q = m := z
              have hm4 : H4 m = some _ := k4.get id upd_same
              rw [z', hm4] at hq
              cases hq
          · refine .inr ⟨b, _, rfl, SqT.of (hb4 h1), kQ _ _ trivial (KP.refl _ _) ⟨(b, rowD e), rfl, fun z => ?_, bm, hb4 h1, e, he, rfl⟩⟩
            have z' : b = D := z
            rw [z', hD0] at h1
            cases h1
        · obtain ⟨us, rfl, hu⟩ := collect (g := fun u : Addr × List Int => V.ref u.1) hf4
          refine .inl ⟨D, _, rfl, SqL.of hD4, fun t ht => ?_⟩
          have hm4 : H4 m = some _ := k4.get id upd_same
          have ntm : t ≠ m := fun e => by
            rw [e, hm4] at ht
            cases ht
          refine ⟨_, rfl, m, CM, dx, _, rfl, by rw [upd_ne ntm.symm]; exact hm4, TC.cl, TC.n3, (by show 2 < 1000; decide), ?_⟩
          rw [List.length_map] at hl4
          have hmem : ∀ u ∈ us, u.1 ≠ m ∧ H4 u.1 = some (.tup (u.2.map V.int)) := fun u hu' => by
            obtain ⟨i, hi⟩ := List.getElem?_of_mem hu'
            obtain ⟨_, h2, h3, _⟩ := hu i u hi
            exact ⟨h2, h3⟩
          refine kG' _ us (((hkm2.trans (k4.weak fun _ z => z.elim)).trans (KP.new ht)).trans (kp_upd rfl)) ⟨dx, t, ?_, ?_, fun u hu' => ?_⟩ ?_
          · rw [upd_same, hl4]
            rfl
          · rw [upd_ne ntm, upd_same]
          · obtain ⟨h2, h3⟩ := hmem u hu'
            rw [upd_ne h2]
            exact nk h3 ht
          · refine List.ext_getElem? fun i => ?_
            rw [List.getElem?_map]
            cases hi : us[i]? with
            | none =>
              have q : us.length ≤ i := List.getElem?_eq_none_iff.mp hi
              have q2 : ((itemsD (.tuple ds')).map rowD)[i]? = none := List.getElem?_eq_none_iff.mpr (by rw [List.length_map]; show ds'.length ≤ i; omega)
              exact q2.symm
            | some u =>
              obtain ⟨_, _, _, e, he, hr'⟩ := hu i u hi
              have q2 : ((itemsD (.tuple ds')).map rowD)[i]? = some (rowD e) := by
                rw [List.getElem?_map]
                show (ds'[i]?).map rowD = _
                rw [he] <;> rfl
              rw [q2]
              show some u.2 = some (rowD e)
              rw [hr']
    | non => 
      refine ⟨_, (pss_cons (ps_if (PW.pt (pw_or (pt_not (pt_val (pe_call G_is_number (hr.mono (by decide)) rfl d_is_number.g d_is_number.F.kp d_is_number.b .nil pass0 (pa_cons (pv 1) pa_nil)))) (pw_or1 (pt_cmpR op_eq (pv 1) pe_int (nomark _))))) (pss_one (ps_raiseLow rfl TE hr (takes_of rfl rfl rfl rfl) (pa_cons pe_int pa_nil) (by rfl))) pss_nil)
    (pss_cons (ps_if (PW.pt (pw_or (pt_not (pt_val (pe_call G_is_sequence (hr.mono (by decide)) rfl d_is_sequence.g d_is_sequence.F.kp d_is_sequence.b .nil pass0 (pa_cons (pv 2) pa_nil)))) (pw_or1 (pt_cmpR op_eq (pe_callB call_len_seq (by rfl) T.len PySem.boot_len (pa_cons (pv 2) pa_nil)) pe_int (nomark _))))) (pss_one (ps_raiseLow rfl TE hr (takes_of rfl rfl rfl rfl) (pa_cons pe_int pa_nil) (by rfl))) pss_nil)
    (pss_cons (ps_for (passes_of rfl) rfl (pi_enum (by rfl) T.enumerate (pa_cons (pv 2) pa_nil)) (pg_tup rfl (pgs_cons (pg_name (i := 3) sc_Machine___init.nd rfl (Or.inl rfl)) (pgs_cons (pg_name (i := 4) sc_Machine___init.nd rfl (Or.inl rfl)) pgs_nil)))
      (pss_one (ps_if (pt_not (pt_val (pe_call G_is_entry (hr.mono (by decide)) rfl d_is_entry.g d_is_entry.F.kp d_is_entry.b .nil pass0 (pa_cons (pv 4) (pa_cons (pv 1) (pa_cons (pe_callB call_len_seq (by rfl) T.len PySem.boot_len (pa_cons (pv 2) pa_nil)) pa_nil)))))) (pss_one (ps_raiseLow rfl TE hr (takes_of rfl rfl rfl rfl) (pa_cons (pe_op op_add pe_int (pv 3)) pa_nil) (by rfl))) pss_nil)))
    (pss_cons (ps_fld (pv 0) (pv 1) rfl)
    (pss_cons (ps_fld (pv 0) (pe_callB call_len_seq (by rfl) T.len PySem.boot_len (pa_cons (pv 2) pa_nil)) rfl)
    (pss_one (ps_fld (pv 0) (pe_tupleOf (by rfl) T.tuple (pe_lc (own := [("entry", 4)]) (g := gName 4) (tt := tYes) (te := tThen (tVar 4) (kTup K)) rfl sc_Machine___init.nd (pi_list (pv 2)) (blkOk_by (N := N_Machine___init) (sc := defScope s_Machine___init) (by decide +kernel)) (fun _ _ _ _ _ => (pg_name (i := 4) sc_Machine___init.nd rfl (Or.inl rfl))) (fun _ _ _ _ _ => pts_nil) (fun _ _ _ _ _ => (pe_tupleOf (by rfl) T.tuple (pv 4))))) rfl))))))), ?_⟩
      refine ⟨_, rfl, x, dc, rfl, Dx, fun H1 S1 => ⟨isN dc, rfl, ?_⟩⟩
      -- the first test
      by_cases hb : badC dc = true
      · have kb := kB hb
        have hN : ∀ i, dc = .int i → i ≤ 0 := fun i e => by
          rw [e] at hb
          exact of_decide_eq_true hb
        cases Dx with
        | int i =>
          have i0 := hN i rfl
          show (if (!decide (0 ≤ i)) = true then _ else _)
          by_cases h0 : 0 ≤ i
          · have e0 : i = 0 := by omega
            rw [decide_eq_true h0]
            refine iteF ⟨_, rfl, rfl, _, rfl, ?_⟩
            rw [e0]
            refine iteT ⟨_, rfl, fun q hq => kb H1 q S1 hq⟩
          · rw [decide_eq_false h0]
            exact iteT (iteT ⟨_, rfl, fun q hq => kb H1 q S1 hq⟩)
        | non => exact iteT (iteT ⟨_, rfl, fun q hq => kb H1 q S1 hq⟩)
        | bl b => exact iteT (iteT ⟨_, rfl, fun q hq => kb H1 q S1 hq⟩)
        | str b => exact iteT (iteT ⟨_, rfl, fun q hq => kb H1 q S1 hq⟩)
        | lst _ _ => exact iteT (iteT ⟨_, rfl, fun q hq => kb H1 q S1 hq⟩)
        | tup _ _ => exact iteT (iteT ⟨_, rfl, fun q hq => kb H1 q S1 hq⟩)
        | dct _ => exact iteT (iteT ⟨_, rfl, fun q hq => kb H1 q S1 hq⟩)
      obtain ⟨A, rfl, A0⟩ : ∃ A : Int, dc = .int A ∧ 0 < A := by
        cases dc with
        | int i => exact ⟨i, rfl, by have : ¬ i ≤ 0 := fun q => hb (decide_eq_true q); omega⟩
        | none => exact absurd rfl hb
        | bool _ => exact absurd rfl hb
        | str _ => exact absurd rfl hb
        | list _ => exact absurd rfl hb
        | tuple _ => exact absurd rfl hb
        | dict _ => exact absurd rfl hb
      have kG' := kG (by simpa using hb) A rfl
      obtain rfl : x = V.int A := by cases Dx; rfl
      show (if (!decide (0 ≤ A)) = true then _ else _)
      rw [decide_eq_true (show 0 ≤ A by omega)]
      refine iteF ⟨_, rfl, rfl, _, rfl, ?_⟩
      rw [decide_eq_false (show ¬ V.int A = V.int 0 from fun e => by injection e with e; omega)]
      refine iteF ?_
      refine ⟨_, rfl, _, _, rfl, Dy.same S1, fun H2 S2 => ⟨false, rfl, iteT (iteT ⟨_, rfl, fun q hq => ?_⟩)⟩⟩
      have e : stepsRes A .none = some 1 := rfl
      rw [e] at kG'
      exact kG' H2 q (S1.trans S2) hq
    | bl b => 
      refine ⟨_, (pss_cons (ps_if (PW.pt (pw_or (pt_not (pt_val (pe_call G_is_number (hr.mono (by decide)) rfl d_is_number.g d_is_number.F.kp d_is_number.b .nil pass0 (pa_cons (pv 1) pa_nil)))) (pw_or1 (pt_cmpR op_eq (pv 1) pe_int (nomark _))))) (pss_one (ps_raiseLow rfl TE hr (takes_of rfl rfl rfl rfl) (pa_cons pe_int pa_nil) (by rfl))) pss_nil)
    (pss_cons (ps_if (PW.pt (pw_or (pt_not (pt_val (pe_call G_is_sequence (hr.mono (by decide)) rfl d_is_sequence.g d_is_sequence.F.kp d_is_sequence.b .nil pass0 (pa_cons (pv 2) pa_nil)))) (pw_or1 (pt_cmpR op_eq (pe_callB call_len_seq (by rfl) T.len PySem.boot_len (pa_cons (pv 2) pa_nil)) pe_int (nomark _))))) (pss_one (ps_raiseLow rfl TE hr (takes_of rfl rfl rfl rfl) (pa_cons pe_int pa_nil) (by rfl))) pss_nil)
    (pss_cons (ps_for (passes_of rfl) rfl (pi_enum (by rfl) T.enumerate (pa_cons (pv 2) pa_nil)) (pg_tup rfl (pgs_cons (pg_name (i := 3) sc_Machine___init.nd rfl (Or.inl rfl)) (pgs_cons (pg_name (i := 4) sc_Machine___init.nd rfl (Or.inl rfl)) pgs_nil)))
      (pss_one (ps_if (pt_not (pt_val (pe_call G_is_entry (hr.mono (by decide)) rfl d_is_entry.g d_is_entry.F.kp d_is_entry.b .nil pass0 (pa_cons (pv 4) (pa_cons (pv 1) (pa_cons (pe_callB call_len_seq (by rfl) T.len PySem.boot_len (pa_cons (pv 2) pa_nil)) pa_nil)))))) (pss_one (ps_raiseLow rfl TE hr (takes_of rfl rfl rfl rfl) (pa_cons (pe_op op_add pe_int (pv 3)) pa_nil) (by rfl))) pss_nil)))
    (pss_cons (ps_fld (pv 0) (pv 1) rfl)
    (pss_cons (ps_fld (pv 0) (pe_callB call_len_seq (by rfl) T.len PySem.boot_len (pa_cons (pv 2) pa_nil)) rfl)
    (pss_one (ps_fld (pv 0) (pe_tupleOf (by rfl) T.tuple (pe_lc (own := [("entry", 4)]) (g := gName 4) (tt := tYes) (te := tThen (tVar 4) (kTup K)) rfl sc_Machine___init.nd (pi_list (pv 2)) (blkOk_by (N := N_Machine___init) (sc := defScope s_Machine___init) (by decide +kernel)) (fun _ _ _ _ _ => (pg_name (i := 4) sc_Machine___init.nd rfl (Or.inl rfl))) (fun _ _ _ _ _ => pts_nil) (fun _ _ _ _ _ => (pe_tupleOf (by rfl) T.tuple (pv 4))))) rfl))))))), ?_⟩
      refine ⟨_, rfl, x, dc, rfl, Dx, fun H1 S1 => ⟨isN dc, rfl, ?_⟩⟩
      -- the first test
      by_cases hb : badC dc = true
      · have kb := kB hb
        have hN : ∀ i, dc = .int i → i ≤ 0 := fun i e => by
          rw [e] at hb
          exact of_decide_eq_true hb
        cases Dx with
        | int i =>
          have i0 := hN i rfl
          show (if (!decide (0 ≤ i)) = true then _ else _)
          by_cases h0 : 0 ≤ i
          · have e0 : i = 0 := by omega
            rw [decide_eq_true h0]
            refine iteF ⟨_, rfl, rfl, _, rfl, ?_⟩
            rw [e0]
            refine iteT ⟨_, rfl, fun q hq => kb H1 q S1 hq⟩
          · rw [decide_eq_false h0]
            exact iteT (iteT ⟨_, rfl, fun q hq => kb H1 q S1 hq⟩)
        | non => exact iteT (iteT ⟨_, rfl, fun q hq => kb H1 q S1 hq⟩)
        | bl b => exact iteT (iteT ⟨_, rfl, fun q hq => kb H1 q S1 hq⟩)
        | str b => exact iteT (iteT ⟨_, rfl, fun q hq => kb H1 q S1 hq⟩)
        | lst _ _ => exact iteT (iteT ⟨_, rfl, fun q hq => kb H1 q S1 hq⟩)
        | tup _ _ => exact iteT (iteT ⟨_, rfl, fun q hq => kb H1 q S1 hq⟩)
        | dct _ => exact iteT (iteT ⟨_, rfl, fun q hq => kb H1 q S1 hq⟩)
      obtain ⟨A, rfl, A0⟩ : ∃ A : Int, dc = .int A ∧ 0 < A := by
        cases dc with
        | int i => exact ⟨i, rfl, by have : ¬ i ≤ 0 := fun q => hb (decide_eq_true q); omega⟩
        | none => exact absurd rfl hb
        | bool _ => exact absurd rfl hb
        | str _ => exact absurd rfl hb
        | list _ => exact absurd rfl hb
        | tuple _ => exact absurd rfl hb
        | dict _ => exact absurd rfl hb
      have kG' := kG (by simpa using hb) A rfl
      obtain rfl : x = V.int A := by cases Dx; rfl
      show (if (!decide (0 ≤ A)) = true then _ else _)
      rw [decide_eq_true (show 0 ≤ A by omega)]
      refine iteF ⟨_, rfl, rfl, _, rfl, ?_⟩
      rw [decide_eq_false (show ¬ V.int A = V.int 0 from fun e => by injection e with e; omega)]
      refine iteF ?_
      refine ⟨_, rfl, _, _, rfl, Dy.same S1, fun H2 S2 => ⟨false, rfl, iteT (iteT ⟨_, rfl, fun q hq => ?_⟩)⟩⟩
      have e : stepsRes A (.bool b) = some 1 := rfl
      rw [e] at kG'
      exact kG' H2 q (S1.trans S2) hq
    | int i0 => 
      refine ⟨_, (pss_cons (ps_if (PW.pt (pw_or (pt_not (pt_val (pe_call G_is_number (hr.mono (by decide)) rfl d_is_number.g d_is_number.F.kp d_is_number.b .nil pass0 (pa_cons (pv 1) pa_nil)))) (pw_or1 (pt_cmpR op_eq (pv 1) pe_int (nomark _))))) (pss_one (ps_raiseLow rfl TE hr (takes_of rfl rfl rfl rfl) (pa_cons pe_int pa_nil) (by rfl))) pss_nil)
    (pss_cons (ps_if (PW.pt (pw_or (pt_not (pt_val (pe_call G_is_sequence (hr.mono (by decide)) rfl d_is_sequence.g d_is_sequence.F.kp d_is_sequence.b .nil pass0 (pa_cons (pv 2) pa_nil)))) (pw_or1 (pt_cmpR op_eq (pe_callB call_len_seq (by rfl) T.len PySem.boot_len (pa_cons (pv 2) pa_nil)) pe_int (nomark _))))) (pss_one (ps_raiseLow rfl TE hr (takes_of rfl rfl rfl rfl) (pa_cons pe_int pa_nil) (by rfl))) pss_nil)
    (pss_cons (ps_for (passes_of rfl) rfl (pi_enum (by rfl) T.enumerate (pa_cons (pv 2) pa_nil)) (pg_tup rfl (pgs_cons (pg_name (i := 3) sc_Machine___init.nd rfl (Or.inl rfl)) (pgs_cons (pg_name (i := 4) sc_Machine___init.nd rfl (Or.inl rfl)) pgs_nil)))
      (pss_one (ps_if (pt_not (pt_val (pe_call G_is_entry (hr.mono (by decide)) rfl d_is_entry.g d_is_entry.F.kp d_is_entry.b .nil pass0 (pa_cons (pv 4) (pa_cons (pv 1) (pa_cons (pe_callB call_len_seq (by rfl) T.len PySem.boot_len (pa_cons (pv 2) pa_nil)) pa_nil)))))) (pss_one (ps_raiseLow rfl TE hr (takes_of rfl rfl rfl rfl) (pa_cons (pe_op op_add pe_int (pv 3)) pa_nil) (by rfl))) pss_nil)))
    (pss_cons (ps_fld (pv 0) (pv 1) rfl)
    (pss_cons (ps_fld (pv 0) (pe_callB call_len_seq (by rfl) T.len PySem.boot_len (pa_cons (pv 2) pa_nil)) rfl)
    (pss_one (ps_fld (pv 0) (pe_tupleOf (by rfl) T.tuple (pe_lc (own := [("entry", 4)]) (g := gName 4) (tt := tYes) (te := tThen (tVar 4) (kTup K)) rfl sc_Machine___init.nd (pi_list (pv 2)) (blkOk_by (N := N_Machine___init) (sc := defScope s_Machine___init) (by decide +kernel)) (fun _ _ _ _ _ => (pg_name (i := 4) sc_Machine___init.nd rfl (Or.inl rfl))) (fun _ _ _ _ _ => pts_nil) (fun _ _ _ _ _ => (pe_tupleOf (by rfl) T.tuple (pv 4))))) rfl))))))), ?_⟩
      refine ⟨_, rfl, x, dc, rfl, Dx, fun H1 S1 => ⟨isN dc, rfl, ?_⟩⟩
      -- the first test
      by_cases hb : badC dc = true
      · have kb := kB hb
        have hN : ∀ i, dc = .int i → i ≤ 0 := fun i e => by
          rw [e] at hb
          exact of_decide_eq_true hb
        cases Dx with
        | int i =>
          have i0 := hN i rfl
          show (if (!decide (0 ≤ i)) = true then _ else _)
          by_cases h0 : 0 ≤ i
          · have e0 : i = 0 := by omega
            rw [decide_eq_true h0]
            refine iteF ⟨_, rfl, rfl, _, rfl, ?_⟩
            rw [e0]
            refine iteT ⟨_, rfl, fun q hq => kb H1 q S1 hq⟩
          · rw [decide_eq_false h0]
            exact iteT (iteT ⟨_, rfl, fun q hq => kb H1 q S1 hq⟩)
        | non => exact iteT (iteT ⟨_, rfl, fun q hq => kb H1 q S1 hq⟩)
        | bl b => exact iteT (iteT ⟨_, rfl, fun q hq => kb H1 q S1 hq⟩)
        | str b => exact iteT (iteT ⟨_, rfl, fun q hq => kb H1 q S1 hq⟩)
        | lst _ _ => exact iteT (iteT ⟨_, rfl, fun q hq => kb H1 q S1 hq⟩)
        | tup _ _ => exact iteT (iteT ⟨_, rfl, fun q hq => kb H1 q S1 hq⟩)
        | dct _ => exact iteT (iteT ⟨_, rfl, fun q hq => kb H1 q S1 hq⟩)
      obtain ⟨A, rfl, A0⟩ : ∃ A : Int, dc = .int A ∧ 0 < A := by
        cases dc with
        | int i => exact ⟨i, rfl, by have : ¬ i ≤ 0 := fun q => hb (decide_eq_true q); omega⟩
        | none => exact absurd rfl hb
        | bool _ => exact absurd rfl hb
        | str _ => exact absurd rfl hb
        | list _ => exact absurd rfl hb
        | tuple _ => exact absurd rfl hb
        | dict _ => exact absurd rfl hb
      have kG' := kG (by simpa using hb) A rfl
      obtain rfl : x = V.int A := by cases Dx; rfl
      show (if (!decide (0 ≤ A)) = true then _ else _)
      rw [decide_eq_true (show 0 ≤ A by omega)]
      refine iteF ⟨_, rfl, rfl, _, rfl, ?_⟩
      rw [decide_eq_false (show ¬ V.int A = V.int 0 from fun e => by injection e with e; omega)]
      refine iteF ?_
      refine ⟨_, rfl, _, _, rfl, Dy.same S1, fun H2 S2 => ⟨false, rfl, iteT (iteT ⟨_, rfl, fun q hq => ?_⟩)⟩⟩
      have e : stepsRes A (.int i0) = some 1 := rfl
      rw [e] at kG'
      exact kG' H2 q (S1.trans S2) hq
    | str z => 
      refine ⟨_, (pss_cons (ps_if (PW.pt (pw_or (pt_not (pt_val (pe_call G_is_number (hr.mono (by decide)) rfl d_is_number.g d_is_number.F.kp d_is_number.b .nil pass0 (pa_cons (pv 1) pa_nil)))) (pw_or1 (pt_cmpR op_eq (pv 1) pe_int (nomark _))))) (pss_one (ps_raiseLow rfl TE hr (takes_of rfl rfl rfl rfl) (pa_cons pe_int pa_nil) (by rfl))) pss_nil)
    (pss_cons (ps_if (PW.pt (pw_or (pt_not (pt_val (pe_call G_is_sequence (hr.mono (by decide)) rfl d_is_sequence.g d_is_sequence.F.kp d_is_sequence.b .nil pass0 (pa_cons (pv 2) pa_nil)))) (pw_or1 (pt_cmpR op_eq (pe_callB call_len_seq (by rfl) T.len PySem.boot_len (pa_cons (pv 2) pa_nil)) pe_int (nomark _))))) (pss_one (ps_raiseLow rfl TE hr (takes_of rfl rfl rfl rfl) (pa_cons pe_int pa_nil) (by rfl))) pss_nil)
    (pss_cons (ps_for (passes_of rfl) rfl (pi_enum (by rfl) T.enumerate (pa_cons (pv 2) pa_nil)) (pg_tup rfl (pgs_cons (pg_name (i := 3) sc_Machine___init.nd rfl (Or.inl rfl)) (pgs_cons (pg_name (i := 4) sc_Machine___init.nd rfl (Or.inl rfl)) pgs_nil)))
      (pss_one (ps_if (pt_not (pt_val (pe_call G_is_entry (hr.mono (by decide)) rfl d_is_entry.g d_is_entry.F.kp d_is_entry.b .nil pass0 (pa_cons (pv 4) (pa_cons (pv 1) (pa_cons (pe_callB call_len_seq (by rfl) T.len PySem.boot_len (pa_cons (pv 2) pa_nil)) pa_nil)))))) (pss_one (ps_raiseLow rfl TE hr (takes_of rfl rfl rfl rfl) (pa_cons (pe_op op_add pe_int (pv 3)) pa_nil) (by rfl))) pss_nil)))
    (pss_cons (ps_fld (pv 0) (pv 1) rfl)
    (pss_cons (ps_fld (pv 0) (pe_callB call_len_seq (by rfl) T.len PySem.boot_len (pa_cons (pv 2) pa_nil)) rfl)
    (pss_one (ps_fld (pv 0) (pe_tupleOf (by rfl) T.tuple (pe_lc (own := [("entry", 4)]) (g := gName 4) (tt := tYes) (te := tThen (tVar 4) (kTup K)) rfl sc_Machine___init.nd (pi_list (pv 2)) (blkOk_by (N := N_Machine___init) (sc := defScope s_Machine___init) (by decide +kernel)) (fun _ _ _ _ _ => (pg_name (i := 4) sc_Machine___init.nd rfl (Or.inl rfl))) (fun _ _ _ _ _ => pts_nil) (fun _ _ _ _ _ => (pe_tupleOf (by rfl) T.tuple (pv 4))))) rfl))))))), ?_⟩
      refine ⟨_, rfl, x, dc, rfl, Dx, fun H1 S1 => ⟨isN dc, rfl, ?_⟩⟩
      -- the first test
      by_cases hb : badC dc = true
      · have kb := kB hb
        have hN : ∀ i, dc = .int i → i ≤ 0 := fun i e => by
          rw [e] at hb
          exact of_decide_eq_true hb
        cases Dx with
        | int i =>
          have i0 := hN i rfl
          show (if (!decide (0 ≤ i)) = true then _ else _)
          by_cases h0 : 0 ≤ i
          · have e0 : i = 0 := by omega
            rw [decide_eq_true h0]
            refine iteF ⟨_, rfl, rfl, _, rfl, ?_⟩
            rw [e0]
            refine iteT ⟨_, rfl, fun q hq => kb H1 q S1 hq⟩
          · rw [decide_eq_false h0]
            exact iteT (iteT ⟨_, rfl, fun q hq => kb H1 q S1 hq⟩)
        | non => exact iteT (iteT ⟨_, rfl, fun q hq => kb H1 q S1 hq⟩)
        | bl b => exact iteT (iteT ⟨_, rfl, fun q hq => kb H1 q S1 hq⟩)
        | str b => exact iteT (iteT ⟨_, rfl, fun q hq => kb H1 q S1 hq⟩)
        | lst _ _ => exact iteT (iteT ⟨_, rfl, fun q hq => kb H1 q S1 hq⟩)
        | tup _ _ => exact iteT (iteT ⟨_, rfl, fun q hq => kb H1 q S1 hq⟩)
        | dct _ => exact iteT (iteT ⟨_, rfl, fun q hq => kb H1 q S1 hq⟩)
      obtain ⟨A, rfl, A0⟩ : ∃ A : Int, dc = .int A ∧ 0 < A := by
        cases dc with
        | int i => exact ⟨i, rfl, by have : ¬ i ≤ 0 := fun q => hb (decide_eq_true q); omega⟩
        | none => exact absurd rfl hb
        | bool _ => exact absurd rfl hb
        | str _ => exact absurd rfl hb
        | list _ => exact absurd rfl hb
        | tuple _ => exact absurd rfl hb
        | dict _ => exact absurd rfl hb
      have kG' := kG (by simpa using hb) A rfl
      obtain rfl : x = V.int A := by cases Dx; rfl
      show (if (!decide (0 ≤ A)) = true then _ else _)
      rw [decide_eq_true (show 0 ≤ A by omega)]
      refine iteF ⟨_, rfl, rfl, _, rfl, ?_⟩
      rw [decide_eq_false (show ¬ V.int A = V.int 0 from fun e => by injection e with e; omega)]
      refine iteF ?_
      refine ⟨_, rfl, _, _, rfl, Dy.same S1, fun H2 S2 => ⟨false, rfl, iteT (iteT ⟨_, rfl, fun q hq => ?_⟩)⟩⟩
      have e : stepsRes A (.str z) = some 1 := rfl
      rw [e] at kG'
      exact kG' H2 q (S1.trans S2) hq
    | dct _ => 
      refine ⟨_, (pss_cons (ps_if (PW.pt (pw_or (pt_not (pt_val (pe_call G_is_number (hr.mono (by decide)) rfl d_is_number.g d_is_number.F.kp d_is_number.b .nil pass0 (pa_cons (pv 1) pa_nil)))) (pw_or1 (pt_cmpR op_eq (pv 1) pe_int (nomark _))))) (pss_one (ps_raiseLow rfl TE hr (takes_of rfl rfl rfl rfl) (pa_cons pe_int pa_nil) (by rfl))) pss_nil)
    (pss_cons (ps_if (PW.pt (pw_or (pt_not (pt_val (pe_call G_is_sequence (hr.mono (by decide)) rfl d_is_sequence.g d_is_sequence.F.kp d_is_sequence.b .nil pass0 (pa_cons (pv 2) pa_nil)))) (pw_or1 (pt_cmpR op_eq (pe_callB call_len_seq (by rfl) T.len PySem.boot_len (pa_cons (pv 2) pa_nil)) pe_int (nomark _))))) (pss_one (ps_raiseLow rfl TE hr (takes_of rfl rfl rfl rfl) (pa_cons pe_int pa_nil) (by rfl))) pss_nil)
    (pss_cons (ps_for (passes_of rfl) rfl (pi_enum (by rfl) T.enumerate (pa_cons (pv 2) pa_nil)) (pg_tup rfl (pgs_cons (pg_name (i := 3) sc_Machine___init.nd rfl (Or.inl rfl)) (pgs_cons (pg_name (i := 4) sc_Machine___init.nd rfl (Or.inl rfl)) pgs_nil)))
      (pss_one (ps_if (pt_not (pt_val (pe_call G_is_entry (hr.mono (by decide)) rfl d_is_entry.g d_is_entry.F.kp d_is_entry.b .nil pass0 (pa_cons (pv 4) (pa_cons (pv 1) (pa_cons (pe_callB call_len_seq (by rfl) T.len PySem.boot_len (pa_cons (pv 2) pa_nil)) pa_nil)))))) (pss_one (ps_raiseLow rfl TE hr (takes_of rfl rfl rfl rfl) (pa_cons (pe_op op_add pe_int (pv 3)) pa_nil) (by rfl))) pss_nil)))
    (pss_cons (ps_fld (pv 0) (pv 1) rfl)
    (pss_cons (ps_fld (pv 0) (pe_callB call_len_seq (by rfl) T.len PySem.boot_len (pa_cons (pv 2) pa_nil)) rfl)
    (pss_one (ps_fld (pv 0) (pe_tupleOf (by rfl) T.tuple (pe_lc (own := [("entry", 4)]) (g := gName 4) (tt := tYes) (te := tThen (tVar 4) (kTup K)) rfl sc_Machine___init.nd (pi_list (pv 2)) (blkOk_by (N := N_Machine___init) (sc := defScope s_Machine___init) (by decide +kernel)) (fun _ _ _ _ _ => (pg_name (i := 4) sc_Machine___init.nd rfl (Or.inl rfl))) (fun _ _ _ _ _ => pts_nil) (fun _ _ _ _ _ => (pe_tupleOf (by rfl) T.tuple (pv 4))))) rfl))))))), ?_⟩
      refine ⟨_, rfl, x, dc, rfl, Dx, fun H1 S1 => ⟨isN dc, rfl, ?_⟩⟩
      -- the first test
      by_cases hb : badC dc = true
      · have kb := kB hb
        have hN : ∀ i, dc = .int i → i ≤ 0 := fun i e => by
          rw [e] at hb
          exact of_decide_eq_true hb
        cases Dx with
        | int i =>
          have i0 := hN i rfl
          show (if (!decide (0 ≤ i)) = true then _ else _)
          by_cases h0 : 0 ≤ i
          · have e0 : i = 0 := by omega
            rw [decide_eq_true h0]
            refine iteF ⟨_, rfl, rfl, _, rfl, ?_⟩
            rw [e0]
            refine iteT ⟨_, rfl, fun q hq => kb H1 q S1 hq⟩
          · rw [decide_eq_false h0]
            exact iteT (iteT ⟨_, rfl, fun q hq => kb H1 q S1 hq⟩)
        | non => exact iteT (iteT ⟨_, rfl, fun q hq => kb H1 q S1 hq⟩)
        | bl b => exact iteT (iteT ⟨_, rfl, fun q hq => kb H1 q S1 hq⟩)
        | str b => exact iteT (iteT ⟨_, rfl, fun q hq => kb H1 q S1 hq⟩)
        | lst _ _ => exact iteT (iteT ⟨_, rfl, fun q hq => kb H1 q S1 hq⟩)
        | tup _ _ => exact iteT (iteT ⟨_, rfl, fun q hq => kb H1 q S1 hq⟩)
        | dct _ => exact iteT (iteT ⟨_, rfl, fun q hq => kb H1 q S1 hq⟩)
      obtain ⟨A, rfl, A0⟩ : ∃ A : Int, dc = .int A ∧ 0 < A := by
        cases dc with
        | int i => exact ⟨i, rfl, by have : ¬ i ≤ 0 := fun q => hb (decide_eq_true q); omega⟩
        | none => exact absurd rfl hb
        | bool _ => exact absurd rfl hb
        | str _ => exact absurd rfl hb
        | list _ => exact absurd rfl hb
        | tuple _ => exact absurd rfl hb
        | dict _ => exact absurd rfl hb
      have kG' := kG (by simpa using hb) A rfl
      obtain rfl : x = V.int A := by cases Dx; rfl
      show (if (!decide (0 ≤ A)) = true then _ else _)
      rw [decide_eq_true (show 0 ≤ A by omega)]
      refine iteF ⟨_, rfl, rfl, _, rfl, ?_⟩
      rw [decide_eq_false (show ¬ V.int A = V.int 0 from fun e => by injection e with e; omega)]
      refine iteF ?_
      refine ⟨_, rfl, _, _, rfl, Dy.same S1, fun H2 S2 => ⟨false, rfl, iteT (iteT ⟨_, rfl, fun q hq => ?_⟩)⟩⟩
      have e : stepsRes A (.dict []) = some 1 := rfl
      rw [e] at kG'
      exact kG' H2 q (S1.trans S2) hq
end
end Lk

set_option Elab.async false
set_option linter.all false
set_option maxRecDepth 100000
set_option maxHeartbeats 4000000
namespace Lk
open PySem L2
abbrev s_is_state : Stmt := top 14
abbrev N_is_state : List Str := ["machine", "value"]
abbrev P_is_state : List Str := ["machine", "value"]
theorem sc_is_state : FnScope N_is_state P_is_state (defScope s_is_state) := ⟨rfl, rfl, rfl, by decide +kernel, rfl, by decide +kernel, by decide +kernel⟩
abbrev s_is_command : Stmt := top 15
abbrev N_is_command : List Str := ["machine", "value"]
abbrev P_is_command : List Str := ["machine", "value"]
theorem sc_is_command : FnScope N_is_command P_is_command (defScope s_is_command) := ⟨rfl, rfl, rfl, by decide +kernel, rfl, by decide +kernel, by decide +kernel⟩
abbrev s_checked_row : Stmt := top 16
abbrev N_checked_row : List Str := ["machine", "value", "index", "entry"]
abbrev P_checked_row : List Str := ["machine", "value"]
theorem sc_checked_row : FnScope N_checked_row P_checked_row (defScope s_checked_row) := ⟨rfl, rfl, rfl, by decide +kernel, rfl, by decide +kernel, by decide +kernel⟩
theorem MachAt.same {C : Addr} {H H' : Hp} {m : Addr} {A : Int} {us : List (Addr × List Int)} (k : Same H H') (x : MachAt C H m A us) : MachAt C H' m A us := by
  obtain ⟨dx, t, h1, h2, h3⟩ := x
  exact ⟨dx, t, k _ _ h1, k _ _ h2, fun u hu => k _ _ (h3 u hu)⟩
/-- objects that are no lists stand -/
def NL (H H' : Hp) : Prop := ∀ a o, H a = some o → (∀ xs, o ≠ .lst xs) → H' a = some o
theorem NL.of_sb {d l : Addr} {H H' : Hp} (x : SB d l H H') (D : DealAt H d l) : NL H H' := fun a o h n => by
  obtain ⟨bs, b, y⟩ := D
  refine x a o h (fun e => ?_) fun e => ?_
  · rw [e, y.hd] at h
    exact n _ (Option.some.inj h).symm
  · rw [e, y.hl] at h
    exact n _ (Option.some.inj h).symm
theorem NL.of_same {H H' : Hp} (x : Same H H') : NL H H' := fun a o h _ => x a o h
theorem NL.trans {H H1 H2 : Hp} (x : NL H H1) (y : NL H1 H2) : NL H H2 := fun a o h n => y a o (x a o h n) n
theorem NL.upd {H : Hp} {a : Addr} {xs : List V} {o : HO} (h : H a = some (.lst xs)) : NL H (L2.upd H a o) := fun b u e n => by
  by_cases q : b = a
  · rw [q, h] at e
    exact absurd (Option.some.inj e).symm (n xs)
  · rw [upd_ne q]
    exact e
theorem MachAt.nl {C : Addr} {H H' : Hp} {m : Addr} {A : Int} {us : List (Addr × List Int)} (k : NL H H') (x : MachAt C H m A us) : MachAt C H' m A us := by
  obtain ⟨dx, t, h1, h2, h3⟩ := x
  exact ⟨dx, t, k _ _ h1 (fun _ e => by cases e), k _ _ h2 (fun _ e => by cases e), fun u hu => k _ _ (h3 u hu) (fun _ e => by cases e)⟩
theorem fld_c (A n : Int) (t : Addr) : (fldM A n t).lookup ("commands" : Str) = some (.int A) := by
  unfold fldM
  rw [lookup_putF, if_neg (by decide +kernel), lookup_putF, if_neg (by decide +kernel), lookup_putF, if_pos rfl]
theorem fld_n (A n : Int) (t : Addr) : (fldM A n t).lookup ("states" : Str) = some (.int n) := by
  unfold fldM
  rw [lookup_putF, if_neg (by decide +kernel), lookup_putF, if_pos rfl]
theorem fld_s (A n : Int) (t : Addr) : (fldM A n t).lookup ("steps" : Str) = some (.ref t) := by
  unfold fldM
  rw [lookup_putF, if_pos rfl]
/-- the index of the first entry that is no command -/
def badV (A : Int) : List PyData → Nat → Option Nat
  | [], _ => none
  | e :: r, i => if isB A e = true then badV A r (i + 1) else some i
def rowRes (A : Int) (d : PyData) : Option Nat := if isS d = false then some 0 else badV A (itemsD d) 0
theorem badV_cons {A : Int} {e : PyData} {r : List PyData} {i : Nat} : badV A (e :: r) i = if isB A e = true then badV A r (i + 1) else some i := rfl
theorem badV_none {A : Int} : ∀ {ds : List PyData} {i : Nat}, badV A ds i = none → ds.all (isB A) = true
  | [], _, _ => rfl
  | d :: ds, i, h => by
    rw [badV_cons] at h
    by_cases hE : isB A d = true
    · rw [if_pos hE] at h
      rw [List.all_cons, hE, badV_none h] <;> rfl
    · rw [if_neg hE] at h
      cases h
def spState (CM : Addr) : Sp := fun vs H Q _ => ∃ (m : Addr) (x : V) (d : PyData) (A : Int) (us : List (Addr × List Int)), vs = [.ref m, x] ∧ MachAt CM H m A us ∧ Dv H x d ∧ ∀ H', Same H H' → Q (.bl (isB (us.length : Int) d)) H'
def spCommand (CM : Addr) : Sp := fun vs H Q _ => ∃ (m : Addr) (x : V) (d : PyData) (A : Int) (us : List (Addr × List Int)), vs = [.ref m, x] ∧ MachAt CM H m A us ∧ Dv H x d ∧ ∀ H', Same H H' → Q (.bl (isB A d)) H'
def intsD (d : PyData) : List Int := (itemsD d).map intD
def spChecked (CM CE : Addr) : Sp := fun vs H Q E => ∃ (m : Addr) (x : V) (d : PyData) (A : Int) (us : List (Addr × List Int)), vs = [.ref m, x] ∧ MachAt CM H m A us ∧ Dv H x d ∧ (itemsD d).length ≤ 1000 ∧
  match rowRes A d with
  | some k => ∀ H' q, Same H H' → H' q = none → E (.ref CE) (some q) (upd H' q (.xd [(("at" : Str), .int (k : Int))]))
  | none => ∀ H' t, Same H H' → H' t = some (.tup ((intsD d).map V.int)) → Q (.ref t) H'
section
variable {P : Program} {w : World} {K : PySem.W.Frag} {mg : Str → Option Value} {base : Heap} {CM : Addr}
theorem ok_state {f fb : Addr} {fd fdb : FuncData} (A0 : Df K mg "is_state" s_is_state f fd P_is_state) (d_is_below : Df K mg "is_below" s_is_below fb fdb P_is_below) (G_is_below : FnOk P w K mg base CX0 3 fb fdb P_is_below spBelowS) (TC : TxC K CM) : FnOk P w K mg base CX0 4 f fd P_is_state (spState CM) := by
  refine A0.F.ok sc_is_state (fun vs H Q E h => ?_) (fun cdv Ar outer s H vs Q E hr h => ?_)
  · obtain ⟨m, x, d, A, us, rfl, _⟩ := h
    rfl
  · obtain ⟨m, x, d, A, us, rfl, M, D, k⟩ := h
    refine ⟨_, (pss_one (ps_ret (pe_call G_is_below (hr.mono (by decide)) rfl d_is_below.g d_is_below.F.kp d_is_below.b .nil pass0 (pa_cons (pv 1) (pa_cons (pe_fld (pv 0) rfl) pa_nil))))), ?_⟩
    obtain ⟨dx, t, h1, h2, h3⟩ := M
    exact ⟨_, rfl, _, rfl, m, CM, dx, _, _, rfl, h1, TC.cl, TC.n2, fld_n _ _ _, x, d, _, rfl, D, k⟩
theorem ok_command {f fb : Addr} {fd fdb : FuncData} (A0 : Df K mg "is_command" s_is_command f fd P_is_command) (d_is_below : Df K mg "is_below" s_is_below fb fdb P_is_below) (G_is_below : FnOk P w K mg base CX0 3 fb fdb P_is_below spBelowS) (TC : TxC K CM) : FnOk P w K mg base CX0 4 f fd P_is_command (spCommand CM) := by
  refine A0.F.ok sc_is_command (fun vs H Q E h => ?_) (fun cdv Ar outer s H vs Q E hr h => ?_)
  · obtain ⟨m, x, d, A, us, rfl, _⟩ := h
    rfl
  · obtain ⟨m, x, d, A, us, rfl, M, D, k⟩ := h
    refine ⟨_, (pss_one (ps_ret (pe_call G_is_below (hr.mono (by decide)) rfl d_is_below.g d_is_below.F.kp d_is_below.b .nil pass0 (pa_cons (pv 1) (pa_cons (pe_fld (pv 0) rfl) pa_nil))))), ?_⟩
    obtain ⟨dx, t, h1, h2, h3⟩ := M
    exact ⟨_, rfl, _, rfl, m, CM, dx, _, _, rfl, h1, TC.cl, TC.n1, fld_c _ _ _, x, d, _, rfl, D, k⟩
theorem ok_checked {f fs fc CE fCE : Addr} {fd fds fdc : FuncData} (A0 : Df K mg "checked_row" s_checked_row f fd P_checked_row) (d_is_sequence : Df K mg "is_sequence" s_is_sequence fs fds P_is_sequence) (d_is_command : Df K mg "is_command" s_is_command fc fdc P_is_command) (G_is_command : FnOk P w K mg base CX0 4 fc fdc P_is_command (spCommand CM))
    (T : Txt mg) (TE : PySem.ErrX.ErrTxt K mg "InvalidRow" "InvalidRow.__init__" CE fCE) : FnOk P w K mg base (L2.CX P w) 6 f fd P_checked_row (spChecked CM CE) := by
  have G_is_sequence : FnOk P w K mg base CX0 1 fs fds P_is_sequence (spT1 isS) := ok_sequence d_is_sequence T
  refine A0.F.okX sc_checked_row (fun vs H Q E h => ?_) (fun cdv Ar outer s H vs Q E hr h => ?_)
  · obtain ⟨m, x, d, A, us, rfl, _⟩ := h
    rfl
  · obtain ⟨m, x, d, A, us, rfl, M, D, hz, kR⟩ := h
    cases id D with
    | @lst a xs ds' ha hx => 
      refine ⟨_, (pss_cons (ps_if (pt_not (pt_val (pe_call G_is_sequence (hr.mono (by decide)) rfl d_is_sequence.g d_is_sequence.F.kp d_is_sequence.b .nil pass0 (pa_cons (pv 1) pa_nil)))) (pss_one (ps_raiseLow rfl TE hr (takes_of rfl rfl rfl rfl) (pa_cons pe_int pa_nil) (by rfl))) pss_nil)
    (pss_cons (ps_for (passes_of rfl) rfl (pi_enum (by rfl) T.enumerate (pa_cons (pv 1) pa_nil)) (pg_tup rfl (pgs_cons (pg_name (i := 2) sc_checked_row.nd rfl (Or.inl rfl)) (pgs_cons (pg_name (i := 3) sc_checked_row.nd rfl (Or.inl rfl)) pgs_nil)))
      (pss_one (ps_if (pt_not (pt_val (pe_call G_is_command (hr.mono (by decide)) rfl d_is_command.g d_is_command.F.kp d_is_command.b .nil pass0 (pa_cons (pv 0) (pa_cons (pv 3) pa_nil))))) (pss_one (ps_raiseLow rfl TE hr (takes_of rfl rfl rfl rfl) (pa_cons (pv 2) pa_nil) (by rfl))) pss_nil)))
    (pss_one (ps_ret (pe_tupleOf (by rfl) T.tuple (pv 1)))))), ?_⟩
      have hlen : xs.length = ds'.length := hx.len
      refine ⟨_, rfl, .ref a, _, rfl, D, fun H1 S1 => ⟨true, rfl, iteF ?_⟩⟩
      have eR : rowRes A (.list ds') = badV A ds' 0 := rfl
      rw [eR] at kR
      refine ⟨_, rfl, a, xs, rfl, SqL.of (S1 _ _ ha), for_enumL (K := K) (a := a) (xs := xs) (fun i σ H3 => ∃ v2 v3 : Option V, σ = [some (.ref m), some (.ref a), v2, v3] ∧ Same H H3 ∧ badV A ds' 0 = badV A (ds'.drop i) i) ⟨none, none, rfl, S1, rfl⟩ (fun i σ H3 ⟨_, _, _, S, _⟩ => SqL.of (S _ _ ha)) ?_ ?_⟩
      · rintro i y σ H3 t hi ⟨v2, v3, rfl, S3, eb⟩ ht
        obtain ⟨e, he, De⟩ := hx.get hi
        have S4 : Same H (upd H3 t (HO.tup [V.int ((i : Nat) : Int), y])) := S3.trans (Same.new ht)
        refine ⟨t, _, rfl, SqT.of upd_same, rfl, _, _, rfl, _, _, rfl, rfl, ?_⟩
        refine ⟨_, rfl, _, rfl, m, y, e, A, us, rfl, M.same S4, De.same S4, fun H5 S5 => ⟨isB A e, rfl, ?_⟩⟩
        rw [drop_get he, badV_cons] at eb
        by_cases hE : isB A e = true
        · rw [if_pos hE] at eb
          rw [hE]
          exact iteF ⟨_, _, rfl, S4.trans S5, eb⟩
        · rw [if_neg hE] at eb
          rw [show isB A e = false by simpa using hE]
          refine iteT ⟨_, rfl, _, rfl, fun q hq => ?_⟩
          rw [eb] at kR
          exact kR H5 q (S4.trans S5) hq
      · rintro σ H3 ⟨v2, v3, rfl, S3, eb⟩
        rw [hlen, List.drop_length] at eb
        rw [show badV A ds' 0 = none from eb] at kR
        have hxi : xs = (ds'.map intD).map V.int := hx.ints (n := A) (badV_none eb)
        have ha' := ha
        rw [hxi] at ha'
        refine ⟨_, rfl, .inl ⟨a, _, rfl, SqL.of (S3 _ _ ha'), fun t ht => ?_⟩⟩
        exact kR _ t (S3.trans (Same.new ht)) upd_same

    | @tup a xs ds' ha hx => 
      refine ⟨_, (pss_cons (ps_if (pt_not (pt_val (pe_call G_is_sequence (hr.mono (by decide)) rfl d_is_sequence.g d_is_sequence.F.kp d_is_sequence.b .nil pass0 (pa_cons (pv 1) pa_nil)))) (pss_one (ps_raiseLow rfl TE hr (takes_of rfl rfl rfl rfl) (pa_cons pe_int pa_nil) (by rfl))) pss_nil)
    (pss_cons (ps_for (passes_of rfl) rfl (pi_enumT (by rfl) T.enumerate (pa_cons (pv 1) pa_nil)) (pg_tup rfl (pgs_cons (pg_name (i := 2) sc_checked_row.nd rfl (Or.inl rfl)) (pgs_cons (pg_name (i := 3) sc_checked_row.nd rfl (Or.inl rfl)) pgs_nil)))
      (pss_one (ps_if (pt_not (pt_val (pe_call G_is_command (hr.mono (by decide)) rfl d_is_command.g d_is_command.F.kp d_is_command.b .nil pass0 (pa_cons (pv 0) (pa_cons (pv 3) pa_nil))))) (pss_one (ps_raiseLow rfl TE hr (takes_of rfl rfl rfl rfl) (pa_cons (pv 2) pa_nil) (by rfl))) pss_nil)))
    (pss_one (ps_ret (pe_tupleOf (by rfl) T.tuple (pv 1)))))), ?_⟩
      have hlen : xs.length = ds'.length := hx.len
      refine ⟨_, rfl, .ref a, _, rfl, D, fun H1 S1 => ⟨true, rfl, iteF ?_⟩⟩
      have eR : rowRes A (.tuple ds') = badV A ds' 0 := rfl
      rw [eR] at kR
      refine ⟨_, rfl, a, xs, rfl, SqT.of (S1 _ _ ha), for_enumT (K := K) (a := a) (xs := xs) (fun i σ H3 => ∃ v2 v3 : Option V, σ = [some (.ref m), some (.ref a), v2, v3] ∧ Same H H3 ∧ badV A ds' 0 = badV A (ds'.drop i) i) ⟨none, none, rfl, S1, rfl⟩ (fun i σ H3 ⟨_, _, _, S, _⟩ => SqT.of (S _ _ ha)) ?_ ?_⟩
      · rintro i y σ H3 t hi ⟨v2, v3, rfl, S3, eb⟩ ht
        obtain ⟨e, he, De⟩ := hx.get hi
        have S4 : Same H (upd H3 t (HO.tup [V.int ((i : Nat) : Int), y])) := S3.trans (Same.new ht)
        refine ⟨t, _, rfl, SqT.of upd_same, rfl, _, _, rfl, _, _, rfl, rfl, ?_⟩
        refine ⟨_, rfl, _, rfl, m, y, e, A, us, rfl, M.same S4, De.same S4, fun H5 S5 => ⟨isB A e, rfl, ?_⟩⟩
        rw [drop_get he, badV_cons] at eb
        by_cases hE : isB A e = true
        · rw [if_pos hE] at eb
          rw [hE]
          exact iteF ⟨_, _, rfl, S4.trans S5, eb⟩
        · rw [if_neg hE] at eb
          rw [show isB A e = false by simpa using hE]
          refine iteT ⟨_, rfl, _, rfl, fun q hq => ?_⟩
          rw [eb] at kR
          exact kR H5 q (S4.trans S5) hq
      · rintro σ H3 ⟨v2, v3, rfl, S3, eb⟩
        rw [hlen, List.drop_length] at eb
        rw [show badV A ds' 0 = none from eb] at kR
        have hxi : xs = (ds'.map intD).map V.int := hx.ints (n := A) (badV_none eb)
        have ha' := ha
        rw [hxi] at ha'
        refine ⟨_, rfl, .inr ⟨a, _, rfl, SqT.of (S3 _ _ ha'), ?_⟩⟩
        exact kR _ a S3 (S3 _ _ ha')

    | non => 
      refine ⟨_, (pss_cons (ps_if (pt_not (pt_val (pe_call G_is_sequence (hr.mono (by decide)) rfl d_is_sequence.g d_is_sequence.F.kp d_is_sequence.b .nil pass0 (pa_cons (pv 1) pa_nil)))) (pss_one (ps_raiseLow rfl TE hr (takes_of rfl rfl rfl rfl) (pa_cons pe_int pa_nil) (by rfl))) pss_nil)
    (pss_cons (ps_for (passes_of rfl) rfl (pi_enum (by rfl) T.enumerate (pa_cons (pv 1) pa_nil)) (pg_tup rfl (pgs_cons (pg_name (i := 2) sc_checked_row.nd rfl (Or.inl rfl)) (pgs_cons (pg_name (i := 3) sc_checked_row.nd rfl (Or.inl rfl)) pgs_nil)))
      (pss_one (ps_if (pt_not (pt_val (pe_call G_is_command (hr.mono (by decide)) rfl d_is_command.g d_is_command.F.kp d_is_command.b .nil pass0 (pa_cons (pv 0) (pa_cons (pv 3) pa_nil))))) (pss_one (ps_raiseLow rfl TE hr (takes_of rfl rfl rfl rfl) (pa_cons (pv 2) pa_nil) (by rfl))) pss_nil)))
    (pss_one (ps_ret (pe_tupleOf (by rfl) T.tuple (pv 1)))))), ?_⟩
      refine ⟨_, rfl, _, _, rfl, D, fun H1 S1 => ⟨false, rfl, iteT ⟨_, rfl, fun q hq => ?_⟩⟩⟩
      have e : rowRes A .none = some 0 := rfl
      rw [e] at kR
      exact kR H1 q S1 hq
    | bl b => 
      refine ⟨_, (pss_cons (ps_if (pt_not (pt_val (pe_call G_is_sequence (hr.mono (by decide)) rfl d_is_sequence.g d_is_sequence.F.kp d_is_sequence.b .nil pass0 (pa_cons (pv 1) pa_nil)))) (pss_one (ps_raiseLow rfl TE hr (takes_of rfl rfl rfl rfl) (pa_cons pe_int pa_nil) (by rfl))) pss_nil)
    (pss_cons (ps_for (passes_of rfl) rfl (pi_enum (by rfl) T.enumerate (pa_cons (pv 1) pa_nil)) (pg_tup rfl (pgs_cons (pg_name (i := 2) sc_checked_row.nd rfl (Or.inl rfl)) (pgs_cons (pg_name (i := 3) sc_checked_row.nd rfl (Or.inl rfl)) pgs_nil)))
      (pss_one (ps_if (pt_not (pt_val (pe_call G_is_command (hr.mono (by decide)) rfl d_is_command.g d_is_command.F.kp d_is_command.b .nil pass0 (pa_cons (pv 0) (pa_cons (pv 3) pa_nil))))) (pss_one (ps_raiseLow rfl TE hr (takes_of rfl rfl rfl rfl) (pa_cons (pv 2) pa_nil) (by rfl))) pss_nil)))
    (pss_one (ps_ret (pe_tupleOf (by rfl) T.tuple (pv 1)))))), ?_⟩
      refine ⟨_, rfl, _, _, rfl, D, fun H1 S1 => ⟨false, rfl, iteT ⟨_, rfl, fun q hq => ?_⟩⟩⟩
      have e : rowRes A (.bool b) = some 0 := rfl
      rw [e] at kR
      exact kR H1 q S1 hq
    | int i0 => 
      refine ⟨_, (pss_cons (ps_if (pt_not (pt_val (pe_call G_is_sequence (hr.mono (by decide)) rfl d_is_sequence.g d_is_sequence.F.kp d_is_sequence.b .nil pass0 (pa_cons (pv 1) pa_nil)))) (pss_one (ps_raiseLow rfl TE hr (takes_of rfl rfl rfl rfl) (pa_cons pe_int pa_nil) (by rfl))) pss_nil)
    (pss_cons (ps_for (passes_of rfl) rfl (pi_enum (by rfl) T.enumerate (pa_cons (pv 1) pa_nil)) (pg_tup rfl (pgs_cons (pg_name (i := 2) sc_checked_row.nd rfl (Or.inl rfl)) (pgs_cons (pg_name (i := 3) sc_checked_row.nd rfl (Or.inl rfl)) pgs_nil)))
      (pss_one (ps_if (pt_not (pt_val (pe_call G_is_command (hr.mono (by decide)) rfl d_is_command.g d_is_command.F.kp d_is_command.b .nil pass0 (pa_cons (pv 0) (pa_cons (pv 3) pa_nil))))) (pss_one (ps_raiseLow rfl TE hr (takes_of rfl rfl rfl rfl) (pa_cons (pv 2) pa_nil) (by rfl))) pss_nil)))
    (pss_one (ps_ret (pe_tupleOf (by rfl) T.tuple (pv 1)))))), ?_⟩
      refine ⟨_, rfl, _, _, rfl, D, fun H1 S1 => ⟨false, rfl, iteT ⟨_, rfl, fun q hq => ?_⟩⟩⟩
      have e : rowRes A (.int i0) = some 0 := rfl
      rw [e] at kR
      exact kR H1 q S1 hq
    | str z => 
      refine ⟨_, (pss_cons (ps_if (pt_not (pt_val (pe_call G_is_sequence (hr.mono (by decide)) rfl d_is_sequence.g d_is_sequence.F.kp d_is_sequence.b .nil pass0 (pa_cons (pv 1) pa_nil)))) (pss_one (ps_raiseLow rfl TE hr (takes_of rfl rfl rfl rfl) (pa_cons pe_int pa_nil) (by rfl))) pss_nil)
    (pss_cons (ps_for (passes_of rfl) rfl (pi_enum (by rfl) T.enumerate (pa_cons (pv 1) pa_nil)) (pg_tup rfl (pgs_cons (pg_name (i := 2) sc_checked_row.nd rfl (Or.inl rfl)) (pgs_cons (pg_name (i := 3) sc_checked_row.nd rfl (Or.inl rfl)) pgs_nil)))
      (pss_one (ps_if (pt_not (pt_val (pe_call G_is_command (hr.mono (by decide)) rfl d_is_command.g d_is_command.F.kp d_is_command.b .nil pass0 (pa_cons (pv 0) (pa_cons (pv 3) pa_nil))))) (pss_one (ps_raiseLow rfl TE hr (takes_of rfl rfl rfl rfl) (pa_cons (pv 2) pa_nil) (by rfl))) pss_nil)))
    (pss_one (ps_ret (pe_tupleOf (by rfl) T.tuple (pv 1)))))), ?_⟩
      refine ⟨_, rfl, _, _, rfl, D, fun H1 S1 => ⟨false, rfl, iteT ⟨_, rfl, fun q hq => ?_⟩⟩⟩
      have e : rowRes A (.str z) = some 0 := rfl
      rw [e] at kR
      exact kR H1 q S1 hq
    | dct _ => 
      refine ⟨_, (pss_cons (ps_if (pt_not (pt_val (pe_call G_is_sequence (hr.mono (by decide)) rfl d_is_sequence.g d_is_sequence.F.kp d_is_sequence.b .nil pass0 (pa_cons (pv 1) pa_nil)))) (pss_one (ps_raiseLow rfl TE hr (takes_of rfl rfl rfl rfl) (pa_cons pe_int pa_nil) (by rfl))) pss_nil)
    (pss_cons (ps_for (passes_of rfl) rfl (pi_enum (by rfl) T.enumerate (pa_cons (pv 1) pa_nil)) (pg_tup rfl (pgs_cons (pg_name (i := 2) sc_checked_row.nd rfl (Or.inl rfl)) (pgs_cons (pg_name (i := 3) sc_checked_row.nd rfl (Or.inl rfl)) pgs_nil)))
      (pss_one (ps_if (pt_not (pt_val (pe_call G_is_command (hr.mono (by decide)) rfl d_is_command.g d_is_command.F.kp d_is_command.b .nil pass0 (pa_cons (pv 0) (pa_cons (pv 3) pa_nil))))) (pss_one (ps_raiseLow rfl TE hr (takes_of rfl rfl rfl rfl) (pa_cons (pv 2) pa_nil) (by rfl))) pss_nil)))
    (pss_one (ps_ret (pe_tupleOf (by rfl) T.tuple (pv 1)))))), ?_⟩
      refine ⟨_, rfl, _, _, rfl, D, fun H1 S1 => ⟨false, rfl, iteT ⟨_, rfl, fun q hq => ?_⟩⟩⟩
      have e : rowRes A (.dict []) = some 0 := rfl
      rw [e] at kR
      exact kR H1 q S1 hq
end
end Lk

set_option Elab.async false
set_option linter.all false
set_option maxRecDepth 100000
set_option maxHeartbeats 4000000
namespace Lk
open PySem L2
abbrev s_resting : Stmt := top 17
abbrev N_resting : List Str := ["machine"]
abbrev P_resting : List Str := ["machine"]
theorem sc_resting : FnScope N_resting P_resting (defScope s_resting) := ⟨rfl, rfl, rfl, by decide +kernel, rfl, by decide +kernel, by decide +kernel⟩
abbrev s_effects : Stmt := top 18
abbrev N_effects : List Str := ["machine", "entry", "command"]
abbrev P_effects : List Str := ["machine"]
theorem sc_effects : FnScope N_effects P_effects (defScope s_effects) := ⟨rfl, rfl, rfl, by decide +kernel, rfl, by decide +kernel, by decide +kernel⟩
abbrev s_followed : Stmt := top 19
abbrev N_followed : List Str := ["one", "other", "state"]
abbrev P_followed : List Str := ["one", "other"]
theorem sc_followed : FnScope N_followed P_followed (defScope s_followed) := ⟨rfl, rfl, rfl, by decide +kernel, rfl, by decide +kernel, by decide +kernel⟩
abbrev s_effect : Stmt := top 20
abbrev N_effect : List Str := ["machine", "row", "each", "ends", "command"]
abbrev P_effect : List Str := ["machine", "row"]
theorem sc_effect : FnScope N_effect P_effect (defScope s_effect) := ⟨rfl, rfl, rfl, by decide +kernel, rfl, by decide +kernel, by decide +kernel⟩
/-! ### what is told of a machine -/
/-- a machine's data: A commands, rows of states -/
structure MOk (A : Int) (us : List (Addr × List Int)) : Prop where
  a0 : 0 < A
  a1 : A ≤ 1000
  n1 : us.length ≤ 1000
  rs : Rs A.toNat (rsOf us)
theorem rsOf_len (us : List (Addr × List Int)) : (rsOf us).length = us.length := List.length_map ..
/-- the column of a command -/
def col (rs : List (List Int)) (c : Nat) : List Int := rs.map fun r => r.getD c 0
theorem inB {A : Int} {ds : List PyData} (h : ds.all (isB A) = true) : ∀ c ∈ ds.map intD, 0 ≤ c ∧ c < A := fun c hc => by
  obtain ⟨d, hd, rfl⟩ := List.mem_map.mp hc
  have q := List.all_eq_true.mp h d hd
  cases d with
  | int i =>
    have q' : (decide (0 ≤ i) && decide (i < A)) = true := q
    rw [Bool.and_eq_true] at q'
    exact ⟨of_decide_eq_true q'.1, of_decide_eq_true q'.2⟩
  | none => cases q
  | bool _ => cases q
  | str _ => cases q
  | list _ => cases q
  | tuple _ => cases q
  | dict _ => cases q
theorem rowRes_in {A : Int} {d : PyData} (h : rowRes A d = none) : ∀ c ∈ intsD d, 0 ≤ c ∧ c < A := by
  unfold rowRes at h
  by_cases hs : isS d = false
  · rw [if_pos hs] at h
    cases h
  · rw [if_neg hs] at h
    exact inB (badV_none h)
theorem effs_nil (rs : List (List Int)) : effs rs [] = rng rs.length := rfl
theorem effs_snoc {A : Nat} {rs : List (List Int)} (x : Rs A rs) {ns : List Int} {c : Int} (h : ∀ z ∈ ns, 0 ≤ z ∧ z < (A : Int)) (c0 : 0 ≤ c) : comp (effs rs ns) (col rs c.toNat) = effs rs (ns ++ [c]) := by
  unfold comp effs
  rw [List.map_map]
  refine List.map_congr_left fun s hs => ?_
  have hs' := List.mem_range.mp hs
  have hl := x.led (ns := ns) (s := (s : Int)) (by omega) (by omega) h
  show (col rs c.toNat).getD (led rs (s : Int) ns).toNat 0 = led rs (s : Int) (ns ++ [c])
  have e : led rs (s : Int) (ns ++ [c]) = stp rs (led rs (s : Int) ns) c := by
    unfold led
    rw [List.foldl_append]
    rfl
  rw [e]
  unfold stp col
  have hi := item_of hl.1 hl.2 ([] : List Int)
  rw [List.getD_eq_getElem?_getD, List.getElem?_map, hi]
  rfl
def spEnd (CM CR CW : Addr) : Sp := fun vs H Q E => ∃ (m : Addr) (x y : V) (dx dy : PyData) (A : Int) (us : List (Addr × List Int)), vs = [.ref m, x, y] ∧ MachAt CM H m A us ∧ MOk A us ∧ Dv H x dx ∧ Dv H y dy ∧ (itemsD dy).length ≤ 1000 ∧
  (isB (us.length : Int) dx = false → ∀ H' q, Same H H' → H' q = none → E (.ref CR) (some q) (upd H' q (.xd [(("at" : Str), .int 0)]))) ∧
  (isB (us.length : Int) dx = true → match rowRes A dy with
    | some k => ∀ H' q, Same H H' → H' q = none → E (.ref CW) (some q) (upd H' q (.xd [(("at" : Str), .int (k : Int))]))
    | none => ∀ H', Same H H' → Q (.int (led (rsOf us) (intD dx) (intsD dy))) H')
def spResting (CM : Addr) : Sp := fun vs H Q _ => ∃ (m : Addr) (A : Int) (us : List (Addr × List Int)), vs = [.ref m] ∧ MachAt CM H m A us ∧ us.length ≤ 1000 ∧ ∀ t, H t = none → Q (.ref t) (upd H t (.tup ((rng us.length).map V.int)))
def spEffects (CM : Addr) : Sp := fun vs H Q _ => ∃ (m : Addr) (A : Int) (us : List (Addr × List Int)), vs = [.ref m] ∧ MachAt CM H m A us ∧ MOk A us ∧
  ∀ H' t (ts : List (Addr × List Int)), Same H H' → H' t = some (.tup (ts.map fun u => V.ref u.1)) → (ts.length : Int) = A → (∀ u ∈ ts, H' u.1 = some (.tup (u.2.map V.int))) → (∀ (i : Nat) u, ts[i]? = some u → u.2 = col (rsOf us) i) → Q (.ref t) H'
def spFollowed : Sp := fun vs H Q _ => ∃ (a b : Addr) (f g : List Int), vs = [.ref a, .ref b] ∧ H a = some (.tup (f.map V.int)) ∧ H b = some (.tup (g.map V.int)) ∧ f.length ≤ 1000 ∧ (∀ z ∈ f, 0 ≤ z ∧ z < (g.length : Int)) ∧
  ∀ H' t, Same H H' → H' t = some (.tup ((comp f g).map V.int)) → Q (.ref t) H'
def spEff (CM CW : Addr) : Sp := fun vs H Q E => ∃ (m : Addr) (y : V) (dy : PyData) (A : Int) (us : List (Addr × List Int)), vs = [.ref m, y] ∧ MachAt CM H m A us ∧ MOk A us ∧ Dv H y dy ∧ (itemsD dy).length ≤ 1000 ∧
  match rowRes A dy with
  | some k => ∀ H' q, Same H H' → H' q = none → E (.ref CW) (some q) (upd H' q (.xd [(("at" : Str), .int (k : Int))]))
  | none => ∀ H' t, Same H H' → H' t = some (.tup ((effs (rsOf us) (intsD dy)).map V.int)) → Q (.ref t) H'
def spEop (CM CW : Addr) : Sp := fun vs H Q E => ∃ (m : Addr) (y : V) (dy : PyData) (A : Int) (us : List (Addr × List Int)) (n : Nat), vs = [.ref m, y, .int (n : Int)] ∧ MachAt CM H m A us ∧ MOk A us ∧ Dv H y dy ∧ (itemsD dy).length ≤ 1000 ∧ n < 2 ^ 63 ∧
  match rowRes A dy with
  | some k => ∀ H' q, Same H H' → H' q = none → E (.ref CW) (some q) (upd H' q (.xd [(("at" : Str), .int (k : Int))]))
  | none => ∀ H' t, Same H H' → H' t = some (.tup ((powG 63 n (effs (rsOf us) (intsD dy)) (rng us.length)).map V.int)) → Q (.ref t) H'
section
variable {P : Program} {w : World} {K : PySem.W.Frag} {mg : Str → Option Value} {base : Heap} {CM CR CW : Addr}
theorem ok_resting {f : Addr} {fd : FuncData} (A0 : Df K mg "resting" s_resting f fd P_resting) (T : Txt mg) (TC : TxC K CM) : FnOk P w K mg base CX0 1 f fd P_resting (spResting CM) := by
  refine A0.F.ok sc_resting (fun vs H Q E h => ?_) (fun cdv Ar outer s H vs Q E hr h => ?_)
  · obtain ⟨m, A, us, rfl, _⟩ := h
    rfl
  · obtain ⟨m, A, us, rfl, M, hz, k⟩ := h
    refine ⟨_, (pss_one (ps_ret (pe_tupRg rfl (by rfl) T.tuple (prg_1 (by rfl) T.range (pe_fld (pv 0) rfl))))), ?_⟩
    obtain ⟨dx, t, h1, h2, h3⟩ := M
    refine ⟨_, rfl, m, CM, dx, _, _, rfl, h1, TC.cl, TC.n2, fld_n _ _ _, _, rfl, RgOk.of_le (by decide) (by omega) (by decide) (by omega), fun q hq => ?_⟩
    rw [rgV_rng]
    exact k q hq
theorem ok_followed {f : Addr} {fd : FuncData} (A0 : Df K mg "followed" s_followed f fd P_followed) (T : Txt mg) : FnOk P w K mg base CX0 1 f fd P_followed spFollowed := by
  refine A0.F.ok sc_followed (fun vs H Q E h => ?_) (fun cdv Ar outer s H vs Q E hr h => ?_)
  · obtain ⟨a, b, ff, g, rfl, _⟩ := h
    rfl
  · obtain ⟨a, b, ff, g, rfl, ha, hb, hl, hin, k⟩ := h
    refine ⟨_, (pss_one (ps_ret (pe_tupleOf (by rfl) T.tuple (pe_lc (own := [("state", 2)]) (g := gName 2) (tt := tYes) (te := tOp (rIxT K) (tVar 1) (tVar 2)) rfl sc_followed.nd (pi_tup (pv 0)) (blkOk_by (N := N_followed) (sc := defScope s_followed) (by decide +kernel)) (fun _ _ _ _ _ => (pg_name (i := 2) sc_followed.nd rfl (Or.inl rfl))) (fun _ _ _ _ _ => pts_nil) (fun _ _ _ _ _ => (pe_ix ix_tup (pv 1) (pv 2) (fun _ _ => rfl))))))), ?_⟩
    refine ⟨_, rfl, a, rfl, ⟨_, SqT.of ha⟩, fun D hD => ?_⟩
    refine lcPT (K := K) (a := a) (xs := ff.map V.int) (fC g) hD (by rw [List.length_map]; omega) (SqT.of ha) (fun y hy H2 S2 Q2 kQ => ?_) (fun H2 e2 S2 => .inl ⟨D, _, rfl, SqL.of e2, fun t ht => ?_⟩)
    · obtain ⟨z, hz, rfl⟩ := List.mem_map.mp hy
      obtain ⟨z0, z1⟩ := hin z hz
      exact ⟨_, rfl, _, rfl, b, _, z, _, rfl, rfl, SqT.of (S2 _ _ hb), atI_int z0 (by rw [List.getElem?_map, item_of z0 z1 (0 : Int)] <;> rfl), kQ _ (Same.refl _)⟩
    · refine k _ t (S2.trans (Same.new ht)) ?_
      rw [upd_same, fC_map]
end
end Lk

set_option Elab.async false
set_option linter.all false
set_option maxRecDepth 100000
set_option maxHeartbeats 4000000
namespace Lk
open PySem L2
theorem powG_zero (kk : Nat) (a b : List Int) : powG kk 0 a b = b := by
  cases kk <;> rfl
theorem powG_step {kk t : Nat} (h : 0 < t) (a b : List Int) : powG (kk + 1) t a b = powG kk (t / 2) (comp a a) (if t % 2 = 1 then comp b a else b) := by
  show (if t = 0 then b else _) = _
  rw [if_neg (by omega)]
theorem effs_in {A : Nat} {rs : List (List Int)} (x : Rs A rs) {ns : List Int} (h : ∀ z ∈ ns, 0 ≤ z ∧ z < (A : Int)) : InR rs.length (effs rs ns) := by
  refine ⟨by unfold effs; simp, fun z hz => ?_⟩
  obtain ⟨s, hs, rfl⟩ := List.mem_map.mp hz
  have hs' := List.mem_range.mp hs
  exact x.led (by omega) (by omega) h
section
variable {P : Program} {w : World} {K : PySem.W.Frag} {mg : Str → Option Value} {base : Heap} {CM CR CW : Addr}
theorem ok_effects {f : Addr} {fd : FuncData} (A0 : Df K mg "effects" s_effects f fd P_effects) (T : Txt mg) (TC : TxC K CM) : FnOk P w K mg base CX0 1 f fd P_effects (spEffects CM) := by
  refine A0.F.ok sc_effects (fun vs H Q E h => ?_) (fun cdv Ar outer s H vs Q E hr h => ?_)
  · obtain ⟨m, A, us, rfl, _⟩ := h
    rfl
  · obtain ⟨m, A, us, rfl, M, O, k⟩ := h
    refine ⟨_, (pss_one (ps_ret (pe_tupleOf (by rfl) T.tuple (pe_lc (own := [("command", 2)]) (g := gName 2) (tt := tYes) (te := tThen (tLc (iTup K (tFld K (tVar 0) "steps")) (gName 1) tYes (tOp (rIxT K) (tVar 1) (tVar 2)) [1]) (kTup K)) rfl sc_effects.nd (pi_range1 rfl T.range (pa_cons (pe_fld (pv 0) rfl) pa_nil)) (blkOk_by (N := N_effects) (sc := defScope s_effects) (by decide +kernel)) (fun _ _ _ _ _ => (pg_name (i := 2) sc_effects.nd rfl (Or.inr rfl))) (fun _ _ _ _ _ => pts_nil)
      (fun _ _ _ _ _ => (pe_tupleOf (by rfl) T.tuple (pe_lc (own := [("entry", 1)]) (wi := iTup K (tFld K (tVar 0) "steps")) (g := gName 1) (tt := tYes) (te := tOp (rIxT K) (tVar 1) (tVar 2)) rfl sc_effects.nd (pi_tup (pe_fld (pv 0) rfl)) (blkOk_by (N := N_effects) (sc := { kind := .function, names := [(".0", .local), ("command", .cell), ("tuple", .globalImplicit), ("machine", .cell)], isGenerator := false, isCoroutine := false }) (by decide +kernel)) (fun _ _ _ _ _ => (pg_name (i := 1) sc_effects.nd rfl (Or.inl rfl))) (fun _ _ _ _ _ => pts_nil) (fun _ _ _ _ _ => (pe_ix ix_tup (pv 1) (pv 2) (fun _ _ => rfl)))))))))), ?_⟩
    have hA := O.a0
    have hA1 := O.a1
    obtain ⟨dx, t, h1, h2, h3⟩ := id M
    refine ⟨_, rfl, m, CM, dx, _, _, rfl, h1, TC.cl, TC.n1, fld_c _ _ _, A, rfl, by omega, by omega, fun D hD => ?_⟩
    refine lcR (lo := 0) (n := A.toNat) (fun _ => False) (fun _ => True) (fun i y H' => ∃ u : Addr × List Int, y = V.ref u.1 ∧ u.1 ≠ D ∧ H' u.1 = some (.tup (u.2.map V.int)) ∧ u.2 = col (rsOf us) i) hD id (by omega) trivial (fun _ _ _ => trivial) (fun i y H1 H2 kp ⟨u, e1, e2, e3, e4⟩ => ⟨u, e1, e2, kp.get (fun q => q.elim id e2) e3, e4⟩) (fun i H1 acc hi _ k1 hD1 Q1 kQ => ?_) (fun ys H' hl hf hD' _ kp => ?_)
    · have S1 : Same H H1 := k1.toSame
      refine ⟨_, rfl, m, CM, dx, _, _, rfl, S1 _ _ h1, TC.cl, TC.n3, fld_s _ _ _, t, rfl, ⟨_, SqT.of (S1 _ _ h2)⟩, fun D2 hD2 => ?_⟩
      refine lcTT (K := K) (a := t) (xs := us.map fun u => V.ref u.1) (fun _ => False) (fun _ => True) (fun k y _ => ∃ z : Int, y = V.int z ∧ ∃ u, us[k]? = some u ∧ z = u.2.getD i 0) hD2 id (by rw [List.length_map]; have := O.n1; omega) trivial (fun _ _ _ => trivial) (fun _ _ _ _ _ x => x) (fun H2 kp => SqT.of (kp.get id (S1 _ _ h2)))
        (fun k y H2 acc2 hk _ k2 _ Q2 kQ2 => ?_) (fun ys2 H3 hl2 hf2 hD3 _ kp3 => ?_)
      · rw [List.getElem?_map] at hk
        obtain ⟨u, hu, rfl⟩ : ∃ u, us[k]? = some u ∧ V.ref u.1 = y := by
          cases e : us[k]? with
          | none => rw [e] at hk; cases hk
          | some u => rw [e] at hk; exact ⟨u, rfl, Option.some.inj hk⟩
        obtain ⟨ru, _⟩ := O.rs.row _ (mem_of_get (rsOf_get hu))
        have hlt : ((0 : Int) + (i : Int)) < (u.2.length : Int) := by rw [ru]; omega
        refine ⟨_, rfl, _, rfl, u.1, _, _, V.int (u.2.getD i 0), rfl, rfl, SqT.of (k2.get id (S1 _ _ (h3 u (mem_of_get hu)))), atI_int (by omega) ?_, kQ2 _ _ trivial (KP.refl _ _) ⟨_, rfl, u, hu, rfl⟩⟩
        have e := item_of (show 0 ≤ (0 : Int) + (i : Int) by omega) hlt (0 : Int)
        have e2 : ((0 : Int) + (i : Int)).toNat = i := by omega
        rw [e2] at e ⊢
        rw [List.getElem?_map, e]
        rfl
      · obtain ⟨zs, rfl, hz⟩ := collect (g := V.int) hf2
        refine .inl ⟨D2, _, rfl, SqL.of hD3, fun q hq => ?_⟩
        refine kQ _ _ trivial (kp3.trans (KP.new hq)) ⟨(q, zs), rfl, fun e => ?_, upd_same, ?_⟩
        · have e' : q = D := e
          have hD4 := kp3.get id hD1
          rw [e', hD4] at hq
          cases hq
        · rw [List.length_map, List.length_map] at hl2
          refine List.ext_getElem? fun k => ?_
          unfold col
          rw [List.getElem?_map]
          cases hk : us[k]? with
          | none =>
            have q1 : us.length ≤ k := List.getElem?_eq_none_iff.mp hk
            have q2 : zs[k]? = none := List.getElem?_eq_none_iff.mpr (by omega)
            have q3 : (rsOf us)[k]? = none := List.getElem?_eq_none_iff.mpr (by rw [rsOf_len]; exact q1)
            rw [q2, q3] <;> rfl
          | some u =>
            have hzk : k < zs.length := by
              have := (List.getElem?_eq_some_iff.mp hk).1
              omega
            obtain ⟨u', hu', e⟩ := hz k _ (List.getElem?_eq_getElem hzk)
            rw [hk] at hu'
            cases hu'
            rw [List.getElem?_eq_getElem hzk, e, rsOf_get hk]
            rfl
    · obtain ⟨ts, rfl, ht⟩ := collect (g := fun u : Addr × List Int => V.ref u.1) hf
      rw [List.length_map] at hl
      refine .inl ⟨D, _, rfl, SqL.of hD', fun q hq => ?_⟩
      refine k _ q ts (kp.toSame.trans (Same.new hq)) upd_same (by omega) (fun u hu => ?_) (fun i u hi => (ht i u hi).2.2)
      obtain ⟨i, hi⟩ := List.getElem?_of_mem hu
      exact nk (ht i u hi).2.1 hq
theorem ok_eff {f fe fr fo fc fW : Addr} {fd fde fdr fdo fdc : FuncData} (A0 : Df K mg "effect" s_effect f fd P_effect) (d_effects : Df K mg "effects" s_effects fe fde P_effects) (d_resting : Df K mg "resting" s_resting fr fdr P_resting) (d_followed : Df K mg "followed" s_followed fo fdo P_followed) (d_checked_row : Df K mg "checked_row" s_checked_row fc fdc P_checked_row)
    (G_checked_row : FnOk P w K mg base (L2.CX P w) 6 fc fdc P_checked_row (spChecked CM CW)) (T : Txt mg) (TC : TxC K CM) : FnOk P w K mg base (L2.CX P w) 7 f fd P_effect (spEff CM CW) := by
  have G_effects : FnOk P w K mg base CX0 1 fe fde P_effects (spEffects CM) := ok_effects d_effects T TC
  have G_resting : FnOk P w K mg base CX0 1 fr fdr P_resting (spResting CM) := ok_resting d_resting T TC
  have G_followed : FnOk P w K mg base CX0 1 fo fdo P_followed spFollowed := ok_followed d_followed T
  refine A0.F.okX sc_effect (fun vs H Q E h => ?_) (fun cdv Ar outer s H vs Q E hr h => ?_)
  · obtain ⟨m, y, dy, A, us, rfl, _⟩ := h
    rfl
  · obtain ⟨m, y, dy, A, us, rfl, M, O, Dy, hz, kG⟩ := h
    have tk : Takes (cxOf (L2.CX P w) P w K mg base N_effect "effect" (defScope s_effect) f cdv Ar outer s H E) (fun cls d _ H => E cls d H) := takes_of rfl rfl rfl rfl
    refine ⟨_, (pss_cons (ps_set (i := 2) sc_effect.nd rfl (Or.inl rfl) (pe_call G_effects (hr.mono (by decide)) rfl d_effects.g d_effects.F.kp d_effects.b .nil pass0 (pa_cons (pv 0) pa_nil)))
    (pss_cons (ps_set (i := 3) sc_effect.nd rfl (Or.inl rfl) (pe_call G_resting (hr.mono (by decide)) rfl d_resting.g d_resting.F.kp d_resting.b .nil pass0 (pa_cons (pv 0) pa_nil)))
    (pss_cons (ps_for (passes_of rfl) rfl (pi_tup (pe_callS G_checked_row (hr.mono (by decide)) rfl d_checked_row.g d_checked_row.F.kp d_checked_row.b (fun σ => passAt tk σ) (pa_cons (pv 0) (pa_cons (pv 1) pa_nil)))) (pg_name (i := 4) sc_effect.nd rfl (Or.inl rfl))
      (pss_one (ps_set (i := 3) sc_effect.nd rfl (Or.inl rfl) (pe_call G_followed (hr.mono (by decide)) rfl d_followed.g d_followed.F.kp d_followed.b .nil pass0 (pa_cons (pv 3) (pa_cons (pe_ix ix_tup (pv 2) (pv 4) (fun _ _ => rfl)) pa_nil))))))
    (pss_one (ps_ret (pv 3)))))), ?_⟩
    have hA := O.a0
    have hn1 := O.n1
    refine ⟨_, rfl, m, A, us, rfl, M, O, fun H1 te ts S1 hte hlt hrow hcol => ?_⟩
    refine ⟨_, rfl, m, A, us, rfl, M.same S1, hn1, fun tr htr => ?_⟩
    have S2 : Same H1 (upd H1 tr (HO.tup ((rng us.length).map V.int))) := Same.new htr
    have S02 := S1.trans S2
    refine ⟨_, rfl, _, rfl, m, y, dy, A, us, rfl, M.same S02, Dy.same S02, hz, ?_⟩
    cases hrr : rowRes A dy with
    | some k =>
      rw [hrr] at kG
      exact fun H' q S' hq => kG H' q (S02.trans S') hq
    | none =>
      rw [hrr] at kG
      have hin := rowRes_in hrr
      have hinN : ∀ (l : List Int), (∀ z ∈ l, z ∈ intsD dy) → ∀ z ∈ l, 0 ≤ z ∧ z < ((A.toNat : Nat) : Int) := fun l hl z hz => by
        have := hin z (hl z hz)
        omega
      intro H3 t S3 ht
      refine ⟨t, rfl, ⟨_, SqT.of ht⟩, for_tup (K := K) (a := t) (xs := (intsD dy).map V.int) (fun i σ H4 => ∃ (q : Addr) (v : Option V), σ = [some (.ref m), some y, some (.ref te), some (.ref q), v] ∧ Same H3 H4 ∧ H4 q = some (.tup ((effs (rsOf us) ((intsD dy).take i)).map V.int))) ⟨tr, none, rfl, Same.refl _, ?_⟩ (fun i σ H4 _ ⟨_, _, _, S4, _⟩ => SqT.of (S4 _ _ ht)) ?_ ?_⟩
      · rw [List.take_zero, effs_nil, rsOf_len]
        exact S3 _ _ upd_same
      · rintro i v0 σ H4 hi ⟨q, v, rfl, S4, hq⟩
        obtain ⟨c, hci, rfl⟩ : ∃ c, (intsD dy)[i]? = some c ∧ V.int c = v0 := by
          rw [List.getElem?_map] at hi
          cases e : (intsD dy)[i]? with
          | none => rw [e] at hi; cases hi
          | some c => rw [e] at hi; exact ⟨c, rfl, Option.some.inj hi⟩
        have hcm := hin c (mem_of_get hci)
        have hlt2 : c.toNat < ts.length := by omega
        have hu : ts[c.toNat]? = some ts[c.toNat] := List.getElem?_eq_getElem hlt2
        have S24 := (S2.trans S3).trans S4
        have hE := effs_in O.rs (ns := (intsD dy).take i) (hinN _ fun z hz => List.mem_of_mem_take hz)
        rw [rsOf_len] at hE
        have hcl : (col (rsOf us) c.toNat).length = us.length := by unfold col; rw [List.length_map, rsOf_len]
        refine ⟨_, rfl, _, rfl, _, rfl, te, _, c, _, rfl, rfl, SqT.of (S24 _ _ hte), atI_int hcm.1 (by rw [List.getElem?_map, hu] <;> rfl), q, _, _, (ts[c.toNat]).2, rfl, hq, S24 _ _ (hrow _ (mem_of_get hu)), by rw [hE.len]; exact hn1, fun z hz => ?_, fun H5 q5 S5 h5 => ?_⟩
        · rw [hcol c.toNat _ hu, hcl]
          exact hE.mem z hz
        · refine ⟨q5, _, rfl, S4.trans S5, ?_⟩
          rw [h5, hcol c.toNat _ hu, effs_snoc O.rs (hinN _ fun z hz => List.mem_of_mem_take hz) hcm.1, take_next hci]
      · rintro σ H4 ⟨q, v, rfl, S4, hq⟩
        rw [List.length_map, List.take_length] at hq
        exact ⟨_, rfl, kG H4 q ((S02.trans S3).trans S4) hq⟩
end
end Lk

set_option Elab.async false
set_option linter.all false
set_option maxRecDepth 100000
set_option maxHeartbeats 4000000
namespace PySem.W
open PySem PySem.Calls PyProof.Rows
section
variable {prog : Program} {w : World} {A : Around} {E : Value → Shared → Prop} {s : Shared} {K : Frag} {h₀ : Heap} {L x C f : Addr} {m : Str → Option Value} {ox : Obj} {od : Option Obj} {b tb : Value}
/-- what != makes of an own == -/
def NeB (Q : Value → Shared → Prop) (v : Value) (s' : Shared) : Prop := ∃ c : Bool, v = .bool c ∧ Q (.bool (!c)) s'
theorem boundB {M : Model} {name : Str} {id : String} {args : List Value} {Q : Option Value → Shared → Prop} (X : K.In s.heap)
    (I : InstAt s.heap x ox C od) (hs : findIn K (.ref C) name = some (some (.builtin id))) (S : Slot "object" name id)
    (h : wpAny M A (call (.builtin id) (.ref x :: args)) (fun v => Q (some v)) E s) :
    wpAny M A (callSpecialIfBound? (.ref x) name args) Q E s := by
  simp only [callSpecialIfBound?, bindSpecialIfBound?]
  refine wpAny_holding (wpAny_bind (wpAny_bind (wpAny_bind (I.type.here ((looks_findIn X hs).here ?_)))))
  simp only [S.bind]
  refine wpAny_bind (wpAny_askSetting (wpAny_ite ?_))
  have fin : wpAny M A (call (.builtin id) ([.ref x] ++ args) >>= fun v => pure (some v)) Q E s :=
    wpAny_bind (wpAny_mono h (fun v s' h' => wpAny_pure h') fun _ _ h' => h')
  split
  · exact wpAny_bind (wpAny_pure (wpAny_pure fin))
  · exact wpAny_tryCatch (wpAny_bind (wpAny_pure (wpAny_pure fin)))
theorem ne_body {Q : Fin → Shared → Prop} (hu : A.units < cLine) (X : K.In s.heap) (I : InstAt s.heap x ox C od)
    (hq : findIn K (.ref C) "__eq__" = some (some (.ref f))) (hf : isFn K (.ref f) = true)
    (h : wpAny (model prog w) A (call (.ref f) [.ref x, b]) (fun v s' => ∃ c : Bool, v = .bool c ∧ Q (.done (.ret (.bool (!c)))) s') E s) :
    wpAny (model prog w) A (Builtin.«object.__ne__» ⟨[.ref x, b], []⟩) Q E s := by
  unfold Builtin.«object.__ne__»
  refine wpAny_bind (wpAny_of_eq (a := ((Value.ref x : Value), [b])) (by first | rfl | (simp only [slotArgs]; rfl)) ?_)
  refine wpAny_bind (wpAny_cRoomFor hu ?_)
  refine wpAny_bind (ifBound_K X I hq hf (wpAny_mono h (fun v s' hv => ?_) fun _ _ e => e))
  obtain ⟨c, rfl, q⟩ := hv
  show wpAny _ _ (do let r ← truthy (.bool c); ret (.bool (!r))) _ _ _
  exact wpAny_bind (wpAny_truthy_bool (wpAny_pure q))
theorem ne_K {Q : Value → Shared → Prop} (hu : A.units + 1 < cLine) (F : Fr h₀ L s.heap m) (X₀ : K.In h₀)
    (I : InstAt s.heap x ox C od) (hb : Looks (model prog w) s.heap (typeOf b) tb) (hn : notFirst K C tb = true)
    (hs : findIn K (.ref C) "__ne__" = some (some (.builtin "object.__ne__")))
    (ho : mroIn K C (.type "object") = some true)
    (hq : findIn K (.ref C) "__eq__" = some (some (.ref f))) (hf : isFn K (.ref f) = true)
    (h : wpAny (model prog w) A.in1 (call (.ref f) [.ref x, b]) (NeB Q) E s) :
    wpAny (model prog w) A (richCompare .NotEq (.ref x) b) Q E s := by
  have X := X₀.keeps F.keep
  have sub : Looks (model prog w) s.heap (isInstance (.ref x) (.type "object")) true := I.type.andThen (looks_mroIn X ho)
  have one : wpAny (model prog w) A (tryCompare (.ref x) (cmpInfo .NotEq).2.1 b) (fun r s' => ∃ v, r = some v ∧ Q v s') E s := by
    unfold tryCompare
    refine wpAny_bind (boundB X I hs PySem.F.cmp_object.ne (wpAny_call (codeAny_call_builtin PySem.F.cmp_object.ne.plain PySem.F.cmpEntry_ne
      (check_slot PySem.F.cmpKind_ne PySem.F.cmpSplit_ne sub (PySem.F.cmpArgs_ne _ _) (ne_body (A := A.in1) hu X I hq hf ?_)))))
    refine wpAny_mono h (fun v s' hv => ?_) fun _ _ e => e
    obtain ⟨c, rfl, q⟩ := hv
    exact ⟨c, rfl, wpAny_pure ⟨_, rfl, q⟩⟩
  unfold richCompare
  simp only [oneThing_ref]
  refine wpAny_holding (wpAny_bind (wpAny_cRoomFor (Nat.lt_of_succ_lt hu) ?_))
  refine wpAny_bind (I.type.here (wpAny_bind (hb.here ?_)))
  split
  · rename_i q
    have e : subIn K tb (.ref C) = some false := by
      rcases Bool.or_eq_true_iff.mp hn with e | e
      · rw [beq_iff_eq.mp e] at q
        simp at q
      · exact beq_iff_eq.mp e
    refine wpAny_bind ((looks_subIn X e).here ?_)
    simp only [Bool.false_eq_true, if_false]
    refine wpAny_bind (wpAny_mono one (fun r s' z => ?_) fun _ _ e => e)
    obtain ⟨v, rfl, hq⟩ := z
    exact wpAny_pure hq
  · refine wpAny_bind (wpAny_pure ?_)
    simp only [Bool.false_eq_true, if_false]
    refine wpAny_bind (wpAny_mono one (fun r s' z => ?_) fun _ _ e => e)
    obtain ⟨v, rfl, hq⟩ := z
    exact wpAny_pure hq
end
end PySem.W

set_option Elab.async false
set_option linter.all false
set_option maxRecDepth 100000
set_option maxHeartbeats 4000000
namespace Lk
open PySem L2
abbrev s_Machine___eq : Stmt := inClass (top 12) 1
abbrev N_Machine___eq : List Str := ["self", "other"]
abbrev P_Machine___eq : List Str := ["self", "other"]
theorem sc_Machine___eq : FnScope N_Machine___eq P_Machine___eq (defScope s_Machine___eq) := ⟨rfl, rfl, rfl, by decide +kernel, rfl, by decide +kernel, by decide +kernel⟩
/-- what the top says of the class for isinstance and == -/
structure TxE (K : PySem.W.Frag) (mg : Str → Option Value) (C fE : Addr) : Prop where
  g : mg "Machine" = some (.ref C)
  ha : PySem.W.findIn K (.ref C) "__class__" = some (some (.builtin "object.__class__"))
  hn : PySem.W.specialIn K (.builtin "object.__class__") "__get__" = some (some (.builtin "getset_descriptor.__get__"))
  htk : PySem.W.takesIn K (.builtin "object.__class__") = some true
  hm : PySem.W.mroIn K C (.type "object") = some true
  kS : PySem.W.kitOne K (.type "str") (.ref C) = some false
  kT : PySem.W.kitOne K (.type "tuple") (.ref C) = some false
  kC : PySem.W.kitOne K (.ref C) (.ref C) = some true
  sS : PySem.W.subIn K (.type "str") (.ref C) = some false
  sT : PySem.W.subIn K (.type "tuple") (.ref C) = some false
  eq : PySem.W.findIn K (.ref C) "__eq__" = some (some (.ref fE))
  isf : PySem.W.isFn K (.ref fE) = true
  ne : PySem.W.findIn K (.ref C) "__ne__" = some (some (.builtin "object.__ne__"))
/-- the right side of == -/
inductive Rt (C : Addr) (H : Hp) : V → Option (Int × List (Addr × List Int)) → Prop
  | str (z : Str) : Rt C H (.str z) none
  | tup {a : Addr} {xs : List V} (h : H a = some (.tup xs)) : Rt C H (.ref a) none
  | mach {a : Addr} {A : Int} {us : List (Addr × List Int)} (h : MachAt C H a A us) : Rt C H (.ref a) (some (A, us))
def rowsEq (A : Int) (us : List (Addr × List Int)) : Option (Int × List (Addr × List Int)) → Bool
  | none => false
  | some (B, vs) => decide (A = B) && decide (rsOf us = rsOf vs)
def spEqM (CM : Addr) : Sp := fun vs H Q _ => ∃ (m : Addr) (y : V) (A : Int) (us : List (Addr × List Int)) (o : Option (Int × List (Addr × List Int))), vs = [.ref m, y] ∧ MachAt CM H m A us ∧ Rt CM H y o ∧ Q (.bl (rowsEq A us o)) H
def rowP (r : List Int) : PyData := .tuple (r.map PyData.int)
theorem eqv_ints : ∀ a b : List Int, PyData.eqvAll (a.map PyData.int) (b.map PyData.int) = decide (a = b)
  | [], [] => rfl
  | [], _ :: _ => rfl
  | _ :: _, [] => rfl
  | x :: a, y :: b => by
    show ((x == y) && PyData.eqvAll (a.map PyData.int) (b.map PyData.int)) = _
    rw [eqv_ints a b]
    by_cases h : x = y
    · by_cases h2 : a = b
      · rw [h, h2]
        simp
      · rw [decide_eq_false h2, Bool.and_false]
        exact (decide_eq_false fun e => h2 (by injection e)).symm
    · have e : (x == y) = false := by simpa using h
      rw [e, Bool.false_and]
      exact (decide_eq_false fun e => h (by injection e)).symm
theorem eqv_rows : ∀ a b : List (List Int), PyData.eqvAll (a.map rowP) (b.map rowP) = decide (a = b)
  | [], [] => rfl
  | [], _ :: _ => rfl
  | _ :: _, [] => rfl
  | x :: a, y :: b => by
    show (PyData.eqvAll (x.map PyData.int) (y.map PyData.int) && PyData.eqvAll (a.map rowP) (b.map rowP)) = _
    rw [eqv_ints x y, eqv_rows a b]
    by_cases h : x = y
    · by_cases h2 : a = b
      · rw [h, h2]
        simp
      · rw [decide_eq_false h2, Bool.and_false]
        exact (decide_eq_false fun e => h2 (by injection e)).symm
    · rw [decide_eq_false h, Bool.false_and]
      exact (decide_eq_false fun e => h (by injection e)).symm
theorem canLay_rows : ∀ a : List (List Int), PyData.canLayAll0 (a.map rowP) = true
  | [] => rfl
  | x :: a => by
    show (PyData.canLayAll0 (x.map PyData.int) && PyData.canLayAll0 (a.map rowP)) = true
    rw [canLay_ints, canLay_rows a] <;> rfl
theorem depth_rows : ∀ a : List (List Int), PyData.depthAll (a.map rowP) ≤ 2
  | [] => by decide
  | x :: a => by
    have h := depth_rows a
    have h2 := depth_ints x
    show max (PyData.depth (rowP x)) (PyData.depthAll (a.map rowP)) ≤ 2
    have e : PyData.depth (rowP x) = PyData.depthAll (x.map PyData.int) + 1 := rfl
    omega
theorem shaped_rows (a : List (List Int)) : SeqAt.shaped (.tuple (a.map rowP)) = true := by
  have h1 : PyData.canLay0 (.tuple (a.map rowP)) = true := canLay_rows a
  have h2 : PyData.depth (.tuple (a.map rowP)) = PyData.depthAll (a.map rowP) + 1 := rfl
  have h3 := depth_rows a
  unfold SeqAt.shaped
  rw [h1, Bool.true_and]
  exact decide_eq_true (by omega)
theorem dp_rows {K : PySem.W.Frag} {H : Hp} : ∀ {us : List (Addr × List Int)}, (∀ u ∈ us, H u.1 = some (.tup (u.2.map V.int))) → DpAll K H (us.map fun u => V.ref u.1) ((rsOf us).map rowP)
  | [], _ => .nil
  | u :: us, h => .cons (.tup (SqT.of (h u List.mem_cons_self)) (dpAll_ints _)) (dp_rows fun v hv => h v (List.mem_cons_of_mem _ hv))
section
variable {P : Program} {w : World} {K : PySem.W.Frag} {mg : Str → Option Value} {base : Heap} {CM fE : Addr}
theorem ok_eq {f : Addr} {fd : FuncData} (F : Fun K "__eq__" "Machine.__eq__" s_Machine___eq f fd) (T : Txt mg) (TC : TxC K CM) (TE : TxE K mg CM fE) : FnOk P w K mg base CX0 1 f fd P_Machine___eq (spEqM CM) := by
  refine F.ok sc_Machine___eq (fun vs H Q E h => ?_) (fun cdv Ar outer s H vs Q E hr h => ?_)
  · obtain ⟨m, y, A, us, o, rfl, _⟩ := h
    rfl
  · obtain ⟨m, y, A, us, o, rfl, M, R, k⟩ := h
    have hu : Ar.units + 3 + 64 < cLine := by have := hr.un; simp only [Around.deeper] at this; omega
    refine ⟨_, (pss_one (ps_ret (pe_and (pe_callB call_isi (by rfl) T.isinstance PyProof.Rows.boot_isinstance (pa_cons (pv 1) (pa_cons (pe_glob (v := .ref CM) (by rfl) TE.g rfl) pa_nil)))
      (pe_and (pe_cmpR op_eq (pe_fld (pv 0) rfl) (pe_fld (pv 1) rfl) (nomark _)) (pe_one (pe_cmpR (op_eqD hu) (pe_fld (pv 0) rfl) (pe_fld (pv 1) rfl) (nomark _))))))), ?_⟩
    cases R with
    | str z => exact ⟨_, rfl, _, _, _, _, false, rfl, .own _, .base (.str z), TE.kS, false, rfl, iteF k⟩
    | tup h => exact ⟨_, rfl, _, _, _, _, false, rfl, .own _, .base (.tup h), TE.kT, false, rfl, iteF k⟩
    | @mach b B vs h =>
      obtain ⟨dx, t, h1, h2, h3⟩ := M
      obtain ⟨dx', t', h1', h2', h3'⟩ := h
      refine ⟨_, rfl, _, _, _, _, true, rfl, .own _, .base (.ins h1' TC.cl TE.ha TE.hn TE.htk TE.hm), TE.kC, true, rfl, iteT ?_⟩
      refine ⟨_, rfl, m, CM, dx, _, _, rfl, h1, TC.cl, TC.n1, fld_c _ _ _, _, rfl, b, CM, dx', _, _, rfl, h1', TC.cl, TC.n1, fld_c _ _ _, rfl, _, rfl, ?_⟩
      have hk : Q (.bl (decide (A = B) && decide (rsOf us = rsOf vs))) H := k
      by_cases hAB : A = B
      · rw [decide_eq_true hAB, Bool.true_and] at hk
        rw [decide_eq_true (show V.int A = V.int B by rw [hAB])]
        refine iteT ⟨_, rfl, m, CM, dx, _, _, rfl, h1, TC.cl, TC.n3, fld_s _ _ _, _, rfl, b, CM, dx', _, _, rfl, h1', TC.cl, TC.n3, fld_s _ _ _, _, _, Dp.tup (SqT.of h2) (dp_rows h3), Dp.tup (SqT.of h2') (dp_rows h3'), shaped_rows _, shaped_rows _, ?_⟩
        rw [show PyData.eqv (.tuple ((rsOf us).map rowP)) (.tuple ((rsOf vs).map rowP)) = PyData.eqvAll ((rsOf us).map rowP) ((rsOf vs).map rowP) from rfl, eqv_rows]
        exact hk
      · rw [decide_eq_false hAB, Bool.false_and] at hk
        rw [decide_eq_false (show ¬ V.int A = V.int B from fun e => hAB (by injection e))]
        exact iteF hk
/-! ### == and != of machines, as operators -/
def rMq (CM : Addr) (neg : Bool) : R2 := fun x y H Q => ∃ (m : Addr) (A : Int) (us : List (Addr × List Int)) (o : Option (Int × List (Addr × List Int))), x = .ref m ∧ MachAt CM H m A us ∧ Rt CM H y o ∧ Q (.bl (if neg then !(rowsEq A us o) else rowsEq A us o)) H
theorem rt_type {X : Cx} {pins : List (Addr × Obj)} {σ : St} {H : Hp} {s : Shared} {y : V} {v : Value} {o : Option (Int × List (Addr × List Int))} (I : Inv X pins σ H s) (r : RelV y v) (R : Rt CM H y o) (TE : TxE X.K X.mg CM fE) :
    ∃ tb, PySem.W.Looks (model X.prog X.w) s.heap (typeOf v) tb ∧ PySem.W.notFirst X.K CM tb = true := by
  cases R with
  | str z =>
    obtain ⟨t, rfl⟩ := (show ∃ t, v = Value.str z t from r)
    exact ⟨.type "str", .now, by unfold PySem.W.notFirst; rw [TE.sS] <;> rfl⟩
  | @tup a xs h =>
    cases (show v = Value.ref a from r)
    obtain ⟨_, _, _, ob, h1, h2, _⟩ := (show ObjOk X.prog X.w H s.heap a (.tup xs) from I.hok a _ h)
    refine ⟨.type "tuple", fun A Q E s k q => wpAny_typeOf_ref (k _ _ h1) (by rw [h2]; exact q), by unfold PySem.W.notFirst; rw [TE.sT] <;> rfl⟩
  | @mach a A us h =>
    cases (show v = Value.ref a from r)
    obtain ⟨dx, t, h1, _⟩ := h
    obtain ⟨mA, J, _⟩ := ins_get I.hok h1
    obtain ⟨od, J, _⟩ := J.look
    exact ⟨.ref CM, J.type, by simp [PySem.W.notFirst]⟩
section
variable {X : Cx} {f : Addr} {fd : FuncData} {ps : List Str}
theorem run_eq {A : Around} {pins : List (Addr × Obj)} {σ : St} {H : Hp} {s : Shared} {m : Addr} {y : V} {v : Value} {M : Int} {us : List (Addr × List Int)} {o : Option (Int × List (Addr × List Int))} {Q : VK} (F : FnOk X.prog X.w X.K X.mg X.base CX0 1 fE fd P_Machine___eq (spEqM CM)) (hb : Binds X.K fd P_Machine___eq [])
    (hr : Room 1 A) (hfr : A.frames = X.A.frames) (I : Inv X pins σ H s) (r : RelV y v) (MA : MachAt CM H m M us) (R : Rt CM H y o) (q : Q (.bl (rowsEq M us o)) H) :
    wpAny (model X.prog X.w) A (call (.ref fE) [.ref m, v]) (fun u s' => u = .bool (rowsEq M us o) ∧ ∃ H', Inv X pins σ H' s' ∧ Q (.bl (rowsEq M us o)) H') X.xe s := by
  have hsp : spEqM CM [.ref m, y] H (fun z H' => z = .bl (rowsEq M us o) ∧ Q (.bl (rowsEq M us o)) H') (fun _ _ _ => False) := ⟨m, y, M, us, o, rfl, MA, R, rfl, q⟩
  have e0 : Env0 X.prog X.w X.K X.mg X.base A X.stack s H := by
    have e := I.env0
    exact ⟨by rw [hfr]; exact e.frames, e.mod, e.bs, e.bsz, e.funs, e.frf, e.hok, e.bare⟩
  have r2 : Vals [V.ref m, y] [Value.ref m, v] := .cons rfl (.cons r .nil)
  refine wpAny_call (codeAny_mono (F.run A X.stack s H ⟨[.ref m, v], []⟩ [.ref m, v] [.ref m, y] _ _ hr e0 (by
    have := hb s [.ref m, v] I.kIn (by rfl)
    simpa using this) r2 hsp) fun r s' hq => ?_)
  cases r with
  | error e => exact False.elim hq
  | ok fl =>
    cases fl with
    | ret u =>
      obtain ⟨z, H', I', rz, ez, ex⟩ := I.after hq
      subst ez
      cases rz
      exact ⟨rfl, H', I', ex⟩
    | next => exact False.elim hq
    | brk => exact False.elim hq
    | cont => exact False.elim hq
theorem op_eqM (F : FnOk X.prog X.w X.K X.mg X.base CX0 1 fE fd P_Machine___eq (spEqM CM)) (hb : Binds X.K fd P_Machine___eq []) (TE : TxE X.K X.mg CM fE) (hr : Room 1 X.A) : OpR X (compareOp .Eq) (rMq CM false) := by
  intro pins s σ H x y v u Q I rx ry h
  obtain ⟨m, A, us, o, rfl, M, R, q⟩ := h
  cases (show v = Value.ref m from rx)
  obtain ⟨tb, ht, hn⟩ := rt_type I ry R TE
  obtain ⟨dx, t, h1, _⟩ := id M
  obtain ⟨mA, J, _⟩ := ins_get I.hok h1
  obtain ⟨od, J, _⟩ := J.look
  obtain ⟨mm, hF⟩ := I.fr
  refine PySem.W.cmp_ofEq (PySem.W.cmp_K (op := .Eq) (tb := tb) hr.units0 hF I.ok.mod.kin J ht hn TE.eq TE.isf ?_)
  refine wpAny_mono (run_eq F hb hr rfl I ry M R q) (fun u s' hu => ?_) fun _ _ z => z
  obtain ⟨rfl, H', I', q'⟩ := hu
  exact ⟨.bl _, H', I', rfl, q'⟩
theorem op_neM (F : FnOk X.prog X.w X.K X.mg X.base CX0 1 fE fd P_Machine___eq (spEqM CM)) (hb : Binds X.K fd P_Machine___eq []) (TE : TxE X.K X.mg CM fE) (hr : Room 2 X.A) : OpR X (compareOp .NotEq) (rMq CM true) := by
  intro pins s σ H x y v u Q I rx ry h
  obtain ⟨m, A, us, o, rfl, M, R, q⟩ := h
  cases (show v = Value.ref m from rx)
  obtain ⟨tb, ht, hn⟩ := rt_type I ry R TE
  obtain ⟨dx, t, h1, _⟩ := id M
  obtain ⟨mA, J, _⟩ := ins_get I.hok h1
  obtain ⟨od, J, _⟩ := J.look
  obtain ⟨mm, hF⟩ := I.fr
  have hu := hr.un
  have hr1 : Room 1 X.A.in1 := ⟨hr.hd, by have := hr.dp; show X.A.depth + 3 * 1 + 5 < _; omega, by show X.A.units + 1 + 16 * 1 + 200 < cLine; omega⟩
  refine PySem.W.cmp_ofNotEq (PySem.W.ne_K (tb := tb) (by omega) hF I.ok.mod.kin J ht hn TE.ne TE.hm TE.eq TE.isf ?_)
  refine wpAny_mono (run_eq (Q := fun z H' => Q (.bl (!(rowsEq A us o))) H') F hb hr1 rfl I ry M R q) (fun u s' hu => ?_) fun _ _ z => z
  obtain ⟨rfl, H', I', q'⟩ := hu
  exact ⟨_, rfl, .bl _, H', I', rfl, q'⟩
end
end
end Lk

set_option Elab.async false
set_option linter.all false
set_option maxRecDepth 100000
set_option maxHeartbeats 4000000
namespace Lk
open PySem L2
/-! ### what a machine is made of -/
theorem dvAll_ints {H : Hp} : ∀ ns : List Int, DvAll H (ns.map V.int) (ns.map PyData.int)
  | [] => .nil
  | _ :: ns => .cons (.int _) (dvAll_ints ns)
def lstP (r : List Int) : PyData := .list (r.map PyData.int)
theorem dv_rowsL {H : Hp} : ∀ {ts : List (Addr × List Int)}, (∀ t ∈ ts, H t.1 = some (.lst (t.2.map V.int))) → DvAll H (ts.map fun t => V.ref t.1) ((rsOf ts).map lstP)
  | [], _ => .nil
  | t :: ts, h => .cons (.lst (h t List.mem_cons_self) (dvAll_ints _)) (dv_rowsL fun u hu => h u (List.mem_cons_of_mem _ hu))
theorem dv_rowsT {H : Hp} : ∀ {ts : List (Addr × List Int)}, (∀ t ∈ ts, H t.1 = some (.tup (t.2.map V.int))) → DvAll H (ts.map fun t => V.ref t.1) ((rsOf ts).map rowP)
  | [], _ => .nil
  | t :: ts, h => .cons (.tup (h t List.mem_cons_self) (dvAll_ints _)) (dv_rowsT fun u hu => h u (List.mem_cons_of_mem _ hu))
theorem isB_ints {n : Int} : ∀ {r : List Int}, (∀ z ∈ r, 0 ≤ z ∧ z < n) → (r.map PyData.int).all (isB n) = true
  | [], _ => rfl
  | z :: r, h => by
    obtain ⟨h0, h1⟩ := h z List.mem_cons_self
    have e : isB n (.int z) = true := by
      show (decide (0 ≤ z) && decide (z < n)) = true
      rw [decide_eq_true h0, decide_eq_true h1] <;> rfl
    rw [List.map_cons, List.all_cons, e, isB_ints fun y hy => h y (List.mem_cons_of_mem _ hy)] <;> rfl
theorem intD_ints : ∀ r : List Int, (r.map PyData.int).map intD = r
  | [] => rfl
  | z :: r => by
    rw [List.map_cons, List.map_cons, intD_ints r] <;> rfl
theorem isE_lst {A : Nat} {n : Int} {r : List Int} (h : r.length = A ∧ ∀ z ∈ r, 0 ≤ z ∧ z < n) : isE A n (lstP r) = true := by
  show (true && (decide (((r.map PyData.int).length : Int) = A) && (r.map PyData.int).all (isB n))) = true
  rw [isB_ints h.2, List.length_map, h.1]
  simp
theorem isE_tup {A : Nat} {n : Int} {r : List Int} (h : r.length = A ∧ ∀ z ∈ r, 0 ≤ z ∧ z < n) : isE A n (rowP r) = true := by
  show (true && (decide (((r.map PyData.int).length : Int) = A) && (r.map PyData.int).all (isB n))) = true
  rw [isB_ints h.2, List.length_map, h.1]
  simp
theorem badAt_all {A n : Int} : ∀ {ds : List PyData} {i : Nat}, (∀ e ∈ ds, isE A n e = true) → badAt A n ds i = none
  | [], _, _ => rfl
  | d :: ds, i, h => by
    rw [badAt_cons, if_pos (h d List.mem_cons_self)]
    exact badAt_all fun e he => h e (List.mem_cons_of_mem _ he)
theorem stepsRes_ok {A : Int} {d : PyData} (h1 : isS d = true) (h2 : itemsD d ≠ []) (h3 : ∀ e ∈ itemsD d, isE A ((itemsD d).length : Int) e = true) : stepsRes A d = none := by
  unfold stepsRes
  rw [if_neg (fun q => q.elim (fun e => by rw [h1] at e; cases e) h2), badAt_all h3] <;> rfl
/-- rows, each as a list or a tuple -/
theorem stepsRes_rows {A : Nat} {rs : List (List Int)} {d : PyData} {g : List Int → PyData} (h1 : isS d = true) (h2 : itemsD d = rs.map g) (hg : ∀ (n : Int) r, r.length = A ∧ (∀ z ∈ r, 0 ≤ z ∧ z < n) → isE A n (g r) = true) (x : Rs A rs) : stepsRes A d = none := by
  refine stepsRes_ok h1 (fun e => ?_) fun e he => ?_
  · rw [h2] at e
    have := x.pos
    rw [List.map_eq_nil_iff.mp e] at this
    exact absurd this (by decide)
  · rw [h2] at he ⊢
    obtain ⟨r, hr, rfl⟩ := List.mem_map.mp he
    rw [List.length_map]
    exact hg _ r (x.row r hr)
/-- what Machine(..) makes: the number of the refusal -/
def makeRes (dc ds : PyData) : Option Int := if badC dc = true then some 0 else stepsRes (intD dc) ds
theorem make_any {CM CE : Addr} {H1 : Hp} {x y : V} {dc ds : PyData} {Q : Addr → Hp → Prop} {E : XK} (Dx : Dv H1 x dc) (Dy : Dv H1 y ds) (n1 : (itemsD ds).length ≤ 1000) (n2 : ∀ e ∈ itemsD ds, (itemsD e).length ≤ 1000)
    (h : match makeRes dc ds with
      | some k => ∀ H' q, Same H1 H' → H' q = none → E (.ref CE) (some q) (upd H' q (.xd [(("at" : Str), .int k)]))
      | none => ∀ H' m us, Same H1 H' → H1 m = none → MachAt CM H' m (intD dc) us → rsOf us = (itemsD ds).map rowD → Q m H') :
    ∀ x0 dx, H1 x0 = none → H1 dx = none → dx ≠ x0 → spInit CM CE (.ref x0 :: ([x, y] ++ [])) (upd (upd H1 dx (.own x0)) x0 (.ins CM dx [])) (fun v H2 => v = .non ∧ Q x0 H2) E := by
  intro x0 dx h0 hd hne
  have hx0 : upd H1 dx (.own x0) x0 = none := by rw [upd_ne (Ne.symm hne)]; exact h0
  have S1 : Same H1 (upd (upd H1 dx (.own x0)) x0 (.ins CM dx [])) := (Same.new hd).trans (Same.new hx0)
  refine ⟨x0, dx, x, y, dc, ds, rfl, upd_same, Dx.same S1, Dy.same S1, n1, n2, fun hb => ?_, fun hb A hA => ?_⟩
  · unfold makeRes at h
    rw [if_pos hb] at h
    exact fun H' d S' hd' => h H' d (S1.trans S') hd'
  · subst hA
    unfold makeRes at h
    rw [if_neg (by rw [hb]; decide)] at h
    have eA : intD (.int A) = A := rfl
    rw [eA] at h
    cases e : stepsRes A ds with
    | some k =>
      rw [e] at h
      exact fun H' d S' hd' => h H' d (S1.trans S') hd'
    | none =>
      rw [e] at h
      refine fun H' us kp M eR => ⟨rfl, h H' x0 us (fun a o ha => kp.get (fun q => ?_) (S1 a o ha)) h0 M eR⟩
      rw [q, h0] at ha
      cases ha
theorem pass_never {P : Program} {w : World} {X : Cx} : Passes (L2.CX P w) X E0 := fun _ _ _ _ _ _ _ ⟨_, _, _, _, _, _, _, _, _, _, _, _, he⟩ => he.elim
theorem rowD_lst (r : List Int) : rowD (lstP r) = r := intD_ints r
theorem rowD_tup (r : List Int) : rowD (rowP r) = r := intD_ints r
theorem map_rowD {g : List Int → PyData} (hg : ∀ r, rowD (g r) = r) : ∀ rs : List (List Int), (rs.map g).map rowD = rs
  | [] => rfl
  | r :: rs => by rw [List.map_cons, List.map_cons, hg, map_rowD hg rs]
/-! ### beside -/
/-- the rows of two machines side by side; rs: the rows of the first so far -/
def bR (rs2 : List (List Int)) (e f : List Int) : List Int := List.zipWith (fun s t => s * (rs2.length : Int) + t) e f
def bG' (rs2 rs : List (List Int)) : List (List Int) := rs.flatMap fun e => rs2.map (bR rs2 e)
def bG (rs1 rs2 : List (List Int)) : List (List Int) := bG' rs2 rs1
theorem Rs.beside {A : Nat} {rs1 rs2 : List (List Int)} (x : Rs A rs1) (y : Rs A rs2) : (bG rs1 rs2).length = rs1.length * rs2.length ∧ Rs A (bG rs1 rs2) := by
  have hl : (bG rs1 rs2).length = rs1.length * rs2.length := by
    unfold bG bG'
    rw [List.length_flatMap]
    simp only [List.length_map]
    rw [List.map_const', List.sum_replicate_nat]
  refine ⟨hl, by rw [hl]; exact Nat.mul_pos x.pos y.pos, fun r hr => ?_⟩
  obtain ⟨e, he, hr⟩ := List.mem_flatMap.mp hr
  obtain ⟨f, hf, rfl⟩ := List.mem_map.mp hr
  obtain ⟨e1, e2⟩ := x.row e he
  obtain ⟨f1, f2⟩ := y.row f hf
  unfold bR
  refine ⟨by rw [List.length_zipWith, e1, f1, Nat.min_self], fun z hz => ?_⟩
  obtain ⟨i, hi, rfl⟩ := List.mem_iff_getElem.mp hz
  rw [List.length_zipWith] at hi
  rw [List.getElem_zipWith, hl]
  obtain ⟨a0, a1⟩ := e2 _ (List.getElem_mem (l := e) (n := i) (by omega))
  obtain ⟨b0, b1⟩ := f2 _ (List.getElem_mem (l := f) (n := i) (by omega))
  have q1 := Int.mul_nonneg a0 (Int.natCast_nonneg rs2.length)
  have q2 : (e[i] + 1) * (rs2.length : Int) ≤ (rs1.length : Int) * (rs2.length : Int) := Int.mul_le_mul_of_nonneg_right (by omega) (by omega)
  rw [Int.add_mul] at q2
  refine ⟨by omega, ?_⟩
  rw [Int.natCast_mul]
  omega
section
variable {K : PySem.W.Frag} {te : TE} {σ : St} {H1 : Hp} {D : Addr} {Qd : Hp → Prop}
/-- a comprehension over zip of two tuples of ints of one length, into slots 5 and 6 -/
theorem lcZ {i j : Nat} {a b : Addr} {xs ys : List Int} (F : Int → Int → Int) (hl : xs.length = ys.length) (hD : H1 D = none) (hn : xs.length ≤ 1000000) (ha : SqT K H1 a (xs.map V.int)) (hb : SqT K H1 b (ys.map V.int))
    (hw : ∀ x y : V, wipe (((wipe σ [i, j]).set i (some x)).set j (some y)) [i, j] = wipe σ [i, j])
    (hs : ∀ (x y : Int) H, Same H1 H → ∀ Q : VK, (∀ H4, Same H H4 → Q (.int (F x y)) H4) → te (((wipe σ [i, j]).set i (some (.int x))).set j (some (.int y))) H Q)
    (hd : ∀ H', H' D = some (.lst ((List.zipWith F xs ys).map V.int)) → Same H1 H' → Qd H') :
    ∃ W : Nat → Nat → Hp → Prop, (∃ m, W 0 m (upd H1 D (.lst []))) ∧ ∀ k m H, W k m H →
      ((RZ.ItzT K a b).stop k H ∧ Qd H) ∨ ((RZ.ItzT K a b).go k H ∧ ∃ Nx : Hp → Prop, (∀ H', Nx H' → ∃ m', m' < m ∧ W (k + 1) m' H') ∧ ∀ x H', (RZ.ItzT K a b).yld k H x H' → gTup K 2 (gCons (gName i) (gCons (gName j) gNil)) x (wipe σ [i, j]) H' fun σ2 H2 => wipe σ2 [i, j] = wipe σ [i, j] ∧ tYes σ2 H2 fun b H3 =>
        if b = true then te σ2 H3 fun y H4 => ∃ acc, H4 D = some (.lst acc) ∧ acc.length < sizeLine ∧ Nx (upd H4 D (.lst (acc ++ [y]))) else Nx H3) := by
  refine ⟨fun k m H => m = xs.length - k ∧ k ≤ xs.length ∧ Same H1 H ∧ H D = some (.lst ((List.zipWith F (xs.take k) (ys.take k)).map V.int)), ⟨xs.length, rfl, Nat.zero_le _, (KP.new (S := fun _ => False) hD).toSame, upd_same⟩, ?_⟩
  rintro k m H ⟨rfl, hk, S, hD2⟩
  have qa := sameT S ha
  have qb := sameT S hb
  by_cases hlt : k < xs.length
  · have hlt2 : k < ys.length := by omega
    have ga : (xs.map V.int)[k]? = some (V.int xs[k]) := by rw [List.getElem?_map, List.getElem?_eq_getElem hlt] <;> rfl
    have gb : (ys.map V.int)[k]? = some (V.int ys[k]) := by rw [List.getElem?_map, List.getElem?_eq_getElem hlt2] <;> rfl
    refine .inr ⟨⟨_, _, _, _, qa, qb, ga, gb⟩, fun H => Same H1 H ∧ H D = some (.lst ((List.zipWith F (xs.take (k + 1)) (ys.take (k + 1))).map V.int)), fun H' p => ⟨xs.length - (k + 1), by omega, rfl, hlt, p.1, p.2⟩, ?_⟩
    rintro v H' ⟨T, x, y, rfl, hT, rfl, f1, f2⟩
    have ex := f1 _ qa
    rw [ga] at ex
    obtain rfl := Option.some.inj ex
    have ey := f2 _ qb
    rw [gb] at ey
    obtain rfl := Option.some.inj ey
    have ST : Same H (upd H T (.tup [V.int xs[k], V.int ys[k]])) := Same.new hT
    refine ⟨T, _, rfl, SqT.of upd_same, rfl, _, _, rfl, _, _, rfl, rfl, hw _ _, iteT (B := Same H1 (upd H T (.tup [V.int xs[k], V.int ys[k]])) ∧ (upd H T (.tup [V.int xs[k], V.int ys[k]])) D = some (.lst ((List.zipWith F (xs.take (k + 1)) (ys.take (k + 1))).map V.int))) ?_⟩
    refine hs _ _ _ (S.trans ST) _ fun H4 S4 => ⟨_, S4 _ _ (ST _ _ hD2), ?_, ((KP.same (S := fun _ => False) ((S.trans ST).trans S4)).mut hD).toSame, ?_⟩
    · rw [List.length_map, List.length_zipWith, List.length_take, List.length_take]
      exact Nat.lt_of_le_of_lt (show _ ≤ 1000000 by omega) (by decide)
    · rw [upd_same, take_next (List.getElem?_eq_getElem hlt), take_next (List.getElem?_eq_getElem hlt2), List.zipWith_append (by rw [List.length_take, List.length_take, hl]), List.map_append]
      rfl
  · have e : k = xs.length := by omega
    subst e
    refine .inl ⟨⟨_, _, qa, qb, .inl (by rw [List.length_map]; exact Nat.le_refl _)⟩, hd H ?_ S⟩
    rw [List.take_length, hl, List.take_length] at hD2
    exact hD2
end
section
variable {P : Program} {w : World} {K : PySem.W.Frag} {mg : Str → Option Value} {base : Heap} {CM CR CE : Addr}
def spBeside (CM CR : Addr) : Sp := fun vs H Q E => ∃ (m1 m2 : Addr) (A B : Int) (us ws : List (Addr × List Int)), vs = [.ref m1, .ref m2] ∧ MachAt CM H m1 A us ∧ MOk A us ∧ MachAt CM H m2 B ws ∧ MOk B ws ∧ us.length * ws.length ≤ 1000 ∧
  (A ≠ B → ∀ H' q, Same H H' → H' q = none → E (.ref CR) (some q) (upd H' q (.xd [(("at" : Str), .int 0)]))) ∧
  (A = B → ∀ H' m xs, Same H H' → H m = none → MachAt CM H' m A xs → rsOf xs = bG (rsOf us) (rsOf ws) → Q (.ref m) H')
end
end Lk

set_option Elab.async false
set_option linter.all false
set_option maxRecDepth 100000
set_option maxHeartbeats 4000000
/-! a try of which each clause binds the exception: several of them -/
namespace Lk
open PySem PySem.Spec PyProof.Rows L2
/-- the ends of a suite behind which the slot is empty again -/
def endsAs (i : Nat) (D : Ends) : Ends := { nx := fun σ' H' => D.nx (σ'.set i none) H', rt := D.rt, bk := fun σ' H' => D.bk (σ'.set i none) H', ct := fun σ' H' => D.ct (σ'.set i none) H' }
abbrev Suit := Addr → Value → Option Addr → TS
/-- what the clauses ask of an exception of the class cls: the first that takes it gets it into slot i -/
def wAll (K : PySem.W.Frag) (i : Nat) (Wo : WX) (D : Ends) : List (Value × Suit) → WX
  | [] => Wo
  | q :: r => fun cls d σ H => ∃ b, PySem.W.exmOne K cls q.1 = some b ∧ (if b = true then ∀ a, H a = none → q.2 a cls d (endsAs i D) (σ.set i (some (.ref a))) H else wAll K i Wo D r cls d σ H)
section
variable {X : Cx} {i : Nat} {n : Str}
/-- the clauses of the text, each with what its suite does -/
inductive Clauses (X : Cx) (n : Str) : List ExceptHandler → List (Value × Suit) → Prop
  | nil : Clauses X n [] []
  | cons {x : Str} {c : Value} {ts : Suit} {b : Stmt} {bs : List Stmt} {p1 p2 : Pos} {hs : List ExceptHandler} {l : List (Value × Suit)} (nm : Names X x c)
      (su : ∀ a oe cls d pn, Zc cls d oe → (∃ vs, oe.data = .fields vs) → PSs (X.suite a ((a, oe) :: pn)) (b :: bs) (ts a cls d)) (tl : Clauses X n hs l) :
      Clauses X n (.ExceptHandler (some (.Name x p1)) (some n) (b :: bs) p2 :: hs) ((c, ts) :: l)
/-- an exception at a has been noted, and stands on the ground: sI the state it left -/
structure Ground (X : Cx) (pins : List (Addr × Obj)) (σ : L2.St) (H : Hp) (cls : Value) (d : Option Addr) (a : Addr) (B : Heap) (sI s : Shared) : Prop where
  inv : Inv X pins σ H sI
  keep : ∀ b o, sI.heap.get? b = some o → b ∉ frs X.stack → B.get? b = some o
  up : sI.heap.UpToSlots s.heap
  fl : HandSPX.FlyingZ B (X.env :: X.outer) a (Zc cls d) s.heap
  fresh : H a = none
  os : s.os = sI.os
  bare : AllBare s.gens
theorem Ground.now {pins : List (Addr × Obj)} {σ : L2.St} {H : Hp} {cls : Value} {d : Option Addr} {a : Addr} {B : Heap} {sI s : Shared} (hs : X.stack = X.env :: X.outer) (g : Ground X pins σ H cls d a B sI s) : Inv X pins σ H s :=
  g.inv.landed g.keep g.fl.1 g.up g.os g.bare
/-- it lies in none of the frames -/
theorem Ground.off {pins : List (Addr × Obj)} {σ : L2.St} {H : Hp} {cls : Value} {d : Option Addr} {a : Addr} {B : Heap} {sI s : Shared} (hf : X.env.frame = some X.env.locals) (g : Ground X pins σ H cls d a B sI s) : a ≠ X.env.locals ∧ a ∉ X.fs := by
  obtain ⟨oe, vs, he, hz, hd⟩ := g.fl.there
  have no : a ∉ frs (X.env :: X.outer) := fun m => by
    obtain ⟨_, o2, e2, k⟩ := g.fl.2.2.1.mem m
    rw [he] at e2
    exact k vs ((Option.some.inj e2) ▸ hd)
  refine ⟨fun z => no (List.mem_filterMap.mpr ⟨X.env, List.mem_cons_self, by rw [hf, z]⟩), fun m => ?_⟩
  obtain ⟨e, he2, q⟩ := List.mem_filterMap.mp m
  exact no (List.mem_filterMap.mpr ⟨e, List.mem_cons_of_mem _ he2, q⟩)
theorem ground_all {pins : List (Addr × Obj)} {σ : L2.St} {H : Hp} {cls : Value} {d : Option Addr} {a : Addr} {B : Heap} {sI s : Shared} {D : Ends} {Wo : WX} (hs : X.stack = X.env :: X.outer) (hf : X.env.frame = some X.env.locals) (hN : X.N.Nodup) (hi : X.N[i]? = some n)
    (hl : X.env.kindOf n = some .local) (tk : Takes X Wo) (ok : X.calm = true → X.A.handled = none) (g : Ground X pins σ H cls d a B sI s) : ∀ {hds : List ExceptHandler} {l : List (Value × Suit)}, Clauses X n hds l → wAll X.K i Wo D l cls d σ H →
    wpAny (model X.prog X.w) X.A (handleBy (.ref a) X.env hds) (SP X pins D) X.xe s := by
  have I3 := g.now hs
  obtain ⟨oL, oF⟩ := g.off hf
  obtain ⟨oe, vs, he, hz, hd⟩ := g.fl.there
  have lk : PySem.W.Looks (model X.prog X.w) s.heap (typeOf (.ref a)) cls := fun A Q E s k q => wpAny_typeOf_ref (k _ _ he) (by rw [hz.1]; exact q)
  intro hds l cl
  induction cl with
  | nil =>
    intro w
    obtain ⟨_, _, _, ox, ws, T, oT, tT, ex, zx, dx, h1, hr⟩ := id g.fl
    refine wpAny_handleBy_nil ?_
    unfold PySem.passOn
    refine wpAny_bind (wpAny_field ex dx h1 ?_)
    rw [if_neg (show ¬ ((Value.ref T == Value.none) = true) by simp)]
    have last : wpAny (model X.prog X.w) X.A (setFlight (.ref a) X.env.frame) (fun _ z => wpAny (model X.prog X.w) X.A (throw (.ref a) : Sem Flow) (SP X pins D) X.xe z) X.xe s := by
      rw [hf]
      exact HandSPX.setFlight_upZ g.fl fun h4 q4 up4 => wpAny_throw (tk _ _ ⟨a, B, sI, pins, σ, H, cls, d, rfl, g.inv, g.keep, g.up.trans up4, .inr (.inr (by rw [hs]; exact q4)), g.fresh, g.os, g.bare, w⟩)
    first
      | exact wpAny_bind (wpAny_pure (wpAny_bind last))
      | exact wpAny_bind last
  | @cons x c ts b bs p1 p2 hs2 l2 nm su tl ih =>
    intro w
    obtain ⟨t, ht, w⟩ := w
    refine wpAny_handleBy_cons (codeAny_handlers_test ?_) (by intro q; cases q)
    have SI := I3.suite he hd g.fresh oL oF
    have read : ∀ {Q : Value → Shared → Prop} {E : Value → Shared → Prop}, Q c s → wpAny (model X.prog X.w) (X.A.mark (some (.ref a))) (eval (.Name x p1) X.env) Q E s := fun {Q E} q => by
      obtain ⟨k1, k2, k3 | ⟨k3, k4, k5⟩⟩ := nm
      · exact ld_glob (X := X.suite a ((a, oe) :: (X.pn ++ pins))) SI k1 k3 q k2
      · exact ld_blt (X := X.suite a ((a, oe) :: (X.pn ++ pins))) SI k1 k3 k4 q k5 k2
    refine read ((PySem.W.exm_one (M := model X.prog X.w) I3.kIn lk ht).here ?_)
    cases t with
    | false => exact ih w
    | true =>
      refine codeAny_handlers_suite_as (HandSPX.lands_againZ g.fl fun h4 fl4 up4 => ?_)
      have I4 : Inv X pins σ H { s with heap := h4 } := g.inv.landed g.keep fl4.1 (g.up.trans up4) g.os g.bare
      obtain ⟨o4, vs4, he4, hz4, hd4⟩ := fl4.there
      refine store_ok (X := X.suite a ((a, o4) :: (X.pn ++ pins))) (v := .ref a) (I4.suite he4 hd4 g.fresh oL oF) hN hi (.inl hl) rfl (fun s5 I5 => ?_) (.inr hl)
      refine wpAny_mono ((su a o4 cls d (X.pn ++ pins) hz4 ⟨_, hd4⟩).run [] s5 _ H _ I5 (w a g.fresh)) (fun f s6 q6 => ?_) (fun _ _ z => False.elim z)
      have gone : ∀ {σ6 : L2.St} {H6 : Hp} {Q : Shared → Prop}, Inv (X.suite a ((a, o4) :: (X.pn ++ pins))) [] σ6 H6 s6 → (∀ s7, Inv X pins (σ6.set i none) H6 s7 → Q s7) → wpAny (model X.prog X.w) X.A (do bindName X.env n .none; unbindBehindTheSuite X.env n p2) (fun _ s7 => Q s7) X.xe s6 :=
        fun {σ6 H6 Q} I6 k => gone_ok (I6.unsuite I3.ok) hN hi hl k
      cases f with
      | ret u =>
        obtain ⟨v6, σ6, H6, I6, r6, z6⟩ := q6
        exact gone I6 fun s7 I7 => ⟨_, _, _, I7, r6, z6⟩
      | next =>
        obtain ⟨σ6, H6, I6, z6⟩ := q6
        exact gone I6 fun s7 I7 => ⟨_, _, I7, z6⟩
      | cont =>
        obtain ⟨σ6, H6, I6, z6⟩ := q6
        exact gone I6 fun s7 I7 => ⟨_, _, I7, z6⟩
      | brk =>
        obtain ⟨σ6, H6, I6, z6⟩ := q6
        exact gone I6 fun s7 I7 => ⟨_, _, I7, z6⟩
theorem ps_try_all {body : List Stmt} {h0 : ExceptHandler} {hds : List ExceptHandler} {l : List (Value × Suit)} {pos : Pos} {tb : WX → TS} {Wo : WX} (hs : X.stack = X.env :: X.outer) (hf : X.env.frame = some X.env.locals) (hN : X.N.Nodup) (hi : X.N[i]? = some n) (hl : X.env.kindOf n = some .local) (tk : Takes X Wo)
    (hb : ∀ W pn xe, Takes (X.tr pn xe) W → PassesOwn (model X.prog X.w) X.A X.env xe → PSs (X.tr pn xe) body (tb W)) (cl : Clauses X n (h0 :: hds) l) : PS X (.Try body (h0 :: hds) [] [] pos) (fun D σ H => tb (wAll X.K i Wo D l) D σ H) := by
  refine ⟨fun pins s σ H D I h => wpAny_Try_except ?_⟩
  have ok := I.ok
  refine wpAny_mono ((hb (wAll X.K i Wo D l) (X.pn ++ pins) (fun e z1 => wpAny (model X.prog X.w) X.A (noteFrame e X.env) (fun _ z2 => wpAny (model X.prog X.w) X.A (setFlight e none) (fun _ z3 => wpAny (model X.prog X.w) X.A (handleBy e X.env (h0 :: hds)) (SP X pins D) X.xe z3) X.xe z2) X.xe z1)
    (fun u z xx => ?_) PassesOwn.looking).run [] s σ H D (I.toTry _) h) (fun f z q => ?_) (fun e z he => he)
  · obtain ⟨a, B, sI, _, σ2, H2, cls, d, rfl, I2, nb, up, sky, na, os, ag, w⟩ := xx
    refine Sky.land Zc.steady (show X.A.frames = some (X.env :: X.outer) by rw [ok.frames, hs]) hf (by rw [← hs]; exact sky) fun h3 fl3 up3 => ?_
    exact ground_all (s := { z with heap := h3 }) hs hf hN hi hl tk (fun hc => ok.hd hc) ⟨I2.ofTry ok, nb, up.trans up3, fl3, na, os, ag⟩ cl w
  · cases f with
    | ret u =>
      obtain ⟨v, σ2, H2, I2, r, k⟩ := q
      exact ⟨v, σ2, H2, I2.ofTry ok, r, k⟩
    | next =>
      obtain ⟨σ2, H2, I2, k⟩ := q
      exact wpAny_execs_nil ⟨σ2, H2, I2.ofTry ok, k⟩
    | cont =>
      obtain ⟨σ2, H2, I2, k⟩ := q
      exact ⟨σ2, H2, I2.ofTry ok, k⟩
    | brk =>
      obtain ⟨σ2, H2, I2, k⟩ := q
      exact ⟨σ2, H2, I2.ofTry ok, k⟩
end
end Lk

set_option Elab.async false
set_option linter.all false
set_option maxRecDepth 100000
set_option maxHeartbeats 4000000
namespace Lk
open PySem L2
/-! ### calls by keywords alone, that may raise -/
theorem Vals.rev : ∀ {xs : List V} {us : List Value}, Vals xs us → Vals xs.reverse us.reverse
  | _, _, .nil => .nil
  | x :: xs, u :: us, .cons r t => by
    rw [List.reverse_cons, List.reverse_cons]
    exact (Vals.rev t).append (.cons r .nil)
/-- the keywords stand in the reverse order of the parameters -/
theorem kbn_rev {K : PySem.W.Frag} {x qual : Str} {st : Stmt} {f : Addr} {fd : FuncData} {ps ks : List Str} {n : Nat} (F : Fun K x qual st f fd)
    (h : ∀ (kV doc pm : Value) (an : Option Addr) (cdv ct : Value) (us ws : List Value), us.length = n → ws.length = ks.length → bindArgs (PySem.W.fnOf x qual (defArgs st) (defBody st) (defScope st) .none kV doc pm an cdv ct) ⟨us, ks.zip ws⟩ = pure (ps.zip (us ++ ws.reverse))) :
    KBn K fd ps n ks (fun us ws => us ++ ws.reverse) (fun vs zs => vs ++ zs.reverse) := by
  obtain ⟨oc, od, kV, doc, pm, an, cdv, ct, osl, rfl, lk, hcd⟩ := F.ex
  exact ⟨fun s us ws _ l1 l2 => .of_eq (h kV doc pm an cdv ct us ws l1 l2), fun r1 r2 => r1.append (Vals.rev r2)⟩
section
variable {X : Cx} {CX : CXT} {k : Nat} {f C : Addr} {fd : FuncData} {ps ks : List Str} {sp : Sp} {E : St → XK} {x : Str} {p pos : Pos} {kws : List Keyword} {tk : TA} {g : List Value → List Value → List Value} {gV : List V → List V → List V}
def tKw (sp : Sp) (gV : List V → List V → List V) (m : Nat) (E : St → XK) (tk : TA) : TE := fun σ H Q => tk σ H fun zs H2 => zs.length = m ∧ sp (gV [] zs) H2 Q (E σ)
def tMkKw (C : Addr) (sp : Sp) (gV : List V → List V → List V) (m : Nat) (E : St → XK) (tk : TA) : TE := fun σ H Q => tk σ H fun zs H2 => zs.length = m ∧ ∀ x dx, H2 x = none → H2 dx = none → dx ≠ x →
  sp (gV [.ref x] zs) (upd (upd H2 dx (.own x)) x (.ins C dx [])) (fun v H3 => v = .non ∧ Q (.ref x) H3) (E σ)
theorem pe_kw (G : FnOk X.prog X.w X.K X.mg X.base CX k f fd ps sp) (room : Room k X.A) (gx : Gl X x) (mx : X.mg x = some (.ref f)) (kp : PySem.W.keepIn X.K (.ref f) = true) (bd : KBn X.K fd ps 0 ks g gV) (out : ∀ σ, PassesAt CX X σ (E σ)) (args : PK X kws tk)
    (h1 : (backToKw pos (keywordEach kws X.env)).all (·.1.isSome) = true := by rfl) (h2 : (backToKw pos (keywordEach kws X.env)).filterMap (·.1) = ks := by rfl) (h3 : (x == ("__debug__" : Str)) = false := by decide)
    (h4 : ((backTo pos (starEach [] X.env)).any (·.1) || (backToKw pos (keywordEach kws X.env)).any (·.1.isNone)) = false := by rfl) : PE X (.Call (.Name x p) [] kws pos) (tKw sp gV ks.length E tk) := by
  refine ⟨fun pins s σ H Q I h => wpAny_Call_Name_kw (ld_glob I gx mx (PySem.W.callWith_KW0 (h₀ := X.base) I.ok.mod.kin kp h1 ?_ h4) h3)⟩
  refine thn (args.run pos pins s σ H _ I h) fun ws s2 ⟨zs, H2, I2, rz, hl, q2⟩ => ⟨I2.kIn, ?_⟩
  rw [h2]
  refine wpAny_call (codeAny_mono (G.run X.A X.stack s2 H2 ⟨[], ks.zip ws⟩ (g [] ws) (gV [] zs) Q (E σ) room I2.env0 (bd.to _ [] ws I2.kIn rfl (rz.length.symm.trans hl)) (bd.rel .nil rz) q2) fun r s3 q3 => ?_)
  match r, q3 with
  | .error e, q3 => exact out σ pins H2 s2 e s3 I2 q3
  | .ok (.ret u), q3 => exact I2.after q3
  | .ok .next, q3 => exact q3.elim
  | .ok .brk, q3 => exact q3.elim
  | .ok .cont, q3 => exact q3.elim
theorem pe_mkKw (M : Mk X.K C f) (G : FnOk X.prog X.w X.K X.mg X.base CX k f fd ps sp) (room : Room (k + 1) X.A) (gx : Gl X x) (mx : X.mg x = some (.ref C)) (bd : KBn X.K fd ps 1 ks g gV) (out : ∀ σ, PassesAt CX X σ (E σ)) (args : PK X kws tk)
    (h1 : (backToKw pos (keywordEach kws X.env)).all (·.1.isSome) = true := by rfl) (h2 : (backToKw pos (keywordEach kws X.env)).filterMap (·.1) = ks := by rfl) (h3 : (x == ("__debug__" : Str)) = false := by decide)
    (h4 : ((backTo pos (starEach [] X.env)).any (·.1) || (backToKw pos (keywordEach kws X.env)).any (·.1.isNone)) = false := by rfl) : PE X (.Call (.Name x p) [] kws pos) (tMkKw C sp gV ks.length E tk) := by
  refine ⟨fun pins s σ H Q I h => wpAny_Call_Name_kw (ld_glob I gx mx (PySem.W.callWith_KW0 (h₀ := X.base) I.ok.mod.kin M.kp h1 ?_ h4) h3)⟩
  refine thn (args.run pos pins s σ H _ I h) fun ws s2 ⟨zs, H2, I2, rz, hl, q2⟩ => ⟨I2.kIn, ?_⟩
  rw [h2]
  have q := q2 (s2.heap.objs.size + 1) s2.heap.objs.size (I2.hok.fresh (Nat.le_succ _)) (I2.hok.fresh (Nat.le_refl _)) (Nat.ne_of_lt (Nat.lt_succ_self _))
  have I3 := I2.made (C := C)
  have r3 := bd.rel (Paired.cons (show RelV (V.ref (s2.heap.objs.size + 1)) (Value.ref (s2.heap.objs.size + 1)) from rfl) .nil) rz
  refine wpAny_call (make_map (f := f) I2.kIn M.makes M.init (beq_iff_eq.mp M.fn) (codeAny_mono (G.run _ X.stack _ _ ⟨[.ref (s2.heap.objs.size + 1)], ks.zip ws⟩ _ _ _ (E σ) (room.make C [] (ks.zip ws)) (I3.env0.make C [] (ks.zip ws)) (bd.to _ [.ref (s2.heap.objs.size + 1)] ws I3.kIn rfl (rz.length.symm.trans hl)) r3 q) fun r s3 q3 => ?_))
  match r, q3 with
  | .error e, q3 => exact out σ pins _ _ e s3 I3 q3
  | .ok (.ret u), q3 =>
    obtain ⟨v, H4, I4, rv, ⟨rfl, k4⟩⟩ := I3.after q3
    exact ⟨rv, V.ref (s2.heap.objs.size + 1), H4, I4, rfl, k4⟩
  | .ok .next, q3 => exact q3.elim
  | .ok .brk, q3 => exact q3.elim
  | .ok .cont, q3 => exact q3.elim
end
def resV : Option Int → V
  | some k => .int k
  | none => .non
def spRefused : Sp := fun vs H Q _ => ∃ (x y : V) (dc ds : PyData), vs = [x, y] ∧ Dv H x dc ∧ Dv H y ds ∧ (itemsD ds).length ≤ 1000 ∧ (∀ e ∈ itemsD ds, (itemsD e).length ≤ 1000) ∧ ∀ H', Same H H' → Q (resV (makeRes dc ds)) H'
/-- what the top says of the class Machine's making -/
structure McT (K : PySem.W.Frag) (mg : Str → Option Value) (CM fI : Addr) (fdI : FuncData) : Prop where
  mM : Mk K CM fI
  g : mg "Machine" = some (.ref CM)
  b : Binds K fdI P_Machine___init []
  k : KBn K fdI P_Machine___init 1 ["steps", "commands"] (fun us ws => us ++ ws.reverse) (fun vs zs => vs ++ zs.reverse)
section
variable {P : Program} {w : World} {K : PySem.W.Frag} {mg : Str → Option Value} {base : Heap} {CM CR CE CW : Addr}
end
end Lk

set_option Elab.async false
set_option linter.all false
set_option maxRecDepth 100000
set_option maxHeartbeats 4000000
namespace Lk
open PySem L2
theorem op_mul_str {X : Cx} : OpR X (binaryOp .Mult) (fun x y H Q => ∃ (z : Str) (n : Int), x = .str z ∧ y = .int n ∧ MulOk z n ∧ Q (.str (Txt.mul z n)) H) := by
  intro pins s σ H x y v u Q I rx ry h
  obtain ⟨z, n, rfl, rfl, ok, q⟩ := h
  obtain ⟨t, rfl⟩ := rx
  obtain ⟨t', rfl⟩ := ry
  exact SB.mul ok fun t2 k => ⟨.str _, H, I.tok _, ⟨_, rfl⟩, q⟩
theorem cut_to {xs : List V} {n : Nat} (h : n ≤ xs.length) : cutV xs none (some (n : Int)) = xs.take n := by
  have e1 : HT.sIx xs.length 0 none = 0 := rfl
  have e2 : HT.sIx xs.length xs.length (some (n : Int)) = n := by
    show (if (n : Int) < 0 then ((n : Int) + ((xs.length : Nat) : Int)).toNat else min (n : Int).toNat xs.length) = n
    rw [if_neg (by omega), Int.toNat_natCast, Nat.min_eq_left h]
  unfold cutV
  rw [e1, e2, List.drop_zero, Nat.sub_zero]
theorem cut_from {xs : List V} {n : Nat} (h : n ≤ xs.length) : cutV xs (some (n : Int)) none = xs.drop n := by
  have e1 : HT.sIx xs.length xs.length none = xs.length := rfl
  have e2 : HT.sIx xs.length 0 (some (n : Int)) = n := by
    show (if (n : Int) < 0 then ((n : Int) + ((xs.length : Nat) : Int)).toNat else min (n : Int).toNat xs.length) = n
    rw [if_neg (by omega), Int.toNat_natCast, Nat.min_eq_left h]
  unfold cutV
  rw [e1, e2, List.take_of_length_le (by rw [List.length_drop]; exact Nat.le_refl _)]
/-- one of six, of five, of three -/
theorem pick6 {a b c d e f v : V} {i : Nat} {P : V → Prop} (h : [a, b, c, d, e, f][i]? = some v) (ha : P a) (hb : P b) (hc : P c) (hd : P d) (he : P e) (hf : P f) : P v := by
  match i, h with
  | 0, h => exact (Option.some.inj h) ▸ ha
  | 1, h => exact (Option.some.inj h) ▸ hb
  | 2, h => exact (Option.some.inj h) ▸ hc
  | 3, h => exact (Option.some.inj h) ▸ hd
  | 4, h => exact (Option.some.inj h) ▸ he
  | 5, h => exact (Option.some.inj h) ▸ hf
  | n + 6, h => simp at h
theorem pick5 {a b c d e v : V} {i : Nat} {P : V → Prop} (h : [a, b, c, d, e][i]? = some v) (ha : P a) (hb : P b) (hc : P c) (hd : P d) (he : P e) : P v := by
  match i, h with
  | 0, h => exact (Option.some.inj h) ▸ ha
  | 1, h => exact (Option.some.inj h) ▸ hb
  | 2, h => exact (Option.some.inj h) ▸ hc
  | 3, h => exact (Option.some.inj h) ▸ hd
  | 4, h => exact (Option.some.inj h) ▸ he
  | n + 5, h => simp at h
theorem pick3 {a b c v : V} {i : Nat} {P : V → Prop} (h : [a, b, c][i]? = some v) (ha : P a) (hb : P b) (hc : P c) : P v := by
  match i, h with
  | 0, h => exact (Option.some.inj h) ▸ ha
  | 1, h => exact (Option.some.inj h) ▸ hb
  | 2, h => exact (Option.some.inj h) ▸ hc
  | n + 3, h => simp at h
theorem badAt_at {A n : Int} {e : PyData} (he : isE A n e = false) : ∀ {pre post : List PyData} {i : Nat}, (∀ d ∈ pre, isE A n d = true) → badAt A n (pre ++ e :: post) i = some (i + pre.length)
  | [], _, _, _ => by
    show badAt A n (e :: _) _ = _
    rw [badAt_cons, if_neg (by rw [he]; decide)]
    rfl
  | d :: pre, post, i, h => by
    show badAt A n (d :: (pre ++ e :: post)) i = _
    rw [badAt_cons, if_pos (h d List.mem_cons_self), badAt_at he fun x hx => h x (List.mem_cons_of_mem _ hx), List.length_cons]
    congr 1
    omega
/-- an entry in the middle is wrong -/
theorem stepsRes_at {A : Nat} {rs : List (List Int)} {i : Nat} {e : PyData} (x : Rs A rs) (hi : i < rs.length) (he : isE A (rs.length : Int) e = false) : stepsRes A (.list ((rs.take i).map lstP ++ e :: (rs.drop (i + 1)).map lstP)) = some (2 + (i : Int)) := by
  have hl : ((rs.take i).map lstP ++ e :: (rs.drop (i + 1)).map lstP).length = rs.length := by
    rw [List.length_append, List.length_cons, List.length_map, List.length_map, List.length_take, List.length_drop]
    omega
  unfold stepsRes
  rw [if_neg (fun q => q.elim (fun e => by cases e) fun e => by
    have e' : ((rs.take i).map lstP ++ _ :: (rs.drop (i + 1)).map lstP) = [] := e
    simp at e')]
  have e0 : itemsD (.list ((rs.take i).map lstP ++ e :: (rs.drop (i + 1)).map lstP)) = (rs.take i).map lstP ++ e :: (rs.drop (i + 1)).map lstP := rfl
  rw [e0, hl, badAt_at he (fun d hd => by
    obtain ⟨r, hr, rfl⟩ := List.mem_map.mp hd
    exact isE_lst (x.row r (List.mem_of_mem_take hr))), List.length_map, List.length_take, Nat.min_eq_left (by omega)]
  show some (2 + ((0 + i : Nat) : Int)) = _
  rw [Nat.zero_add]
theorem makeRes_row {A : Nat} {rs : List (List Int)} {i : Nat} {e : PyData} (hA : 0 < A) (x : Rs A rs) (hi : i < rs.length) (he : isE A (rs.length : Int) e = false) : makeRes (.int A) (.list ((rs.take i).map lstP ++ e :: (rs.drop (i + 1)).map lstP)) = some (2 + (i : Int)) := by
  unfold makeRes
  rw [if_neg (by
    show ¬ decide ((A : Int) ≤ 0) = true
    rw [decide_eq_false (by omega)]
    decide)]
  exact stepsRes_at x hi he
def spWrong : Sp := fun vs H Q _ => ∃ (d l a : Addr) (A : Nat) (ts : List (Addr × List Int)), vs = [.ref d, .int (A : Int), .ref a] ∧ DealAt H d l ∧ GridAt H a ts ∧ ¬ dl d l a ∧ (∀ t ∈ ts, ¬ dl d l t.1) ∧ RowsOk A ts ∧ 0 < A ∧ A ≤ 5 ∧ ts.length ≤ 100 ∧
  ∀ (H' : Hp) (t : Addr) (x y : V) (dc ds : PyData) (n : Int), DealAt H' d l → SB d l H H' → H' t = some (.tup [x, y, .int n]) → Dv H' x dc → Dv H' y ds → (itemsD ds).length ≤ 1000 → (∀ e ∈ itemsD ds, (itemsD e).length ≤ 1000) → makeRes dc ds = some n → Q (.ref t) H'
theorem DvAll.set {H : Hp} {v : V} {e : PyData} (De : Dv H v e) : ∀ {xs : List V} {ds : List PyData} {i : Nat}, DvAll H xs ds → DvAll H (xs.set i v) (ds.set i e)
  | _, _, _, .nil => .nil
  | _, _, 0, .cons _ t => .cons De t
  | _, _, _ + 1, .cons h t => .cons h (DvAll.set De t)
theorem all_set_false {p : PyData → Bool} {e : PyData} : ∀ {ds : List PyData} {i : Nat}, i < ds.length → p e = false → (ds.set i e).all p = false
  | [], _, h, _ => by simp at h
  | d :: ds, 0, _, he => by
    show (p e && ds.all p) = false
    rw [he, Bool.false_and]
  | d :: ds, i + 1, h, he => by
    show (p d && (ds.set i e).all p) = false
    rw [all_set_false (Nat.lt_of_succ_lt_succ h) he, Bool.and_false]
theorem dvAll_append {H : Hp} : ∀ {xs ys : List V} {ds es : List PyData}, DvAll H xs ds → DvAll H ys es → DvAll H (xs ++ ys) (ds ++ es)
  | _, _, _, _, .nil, k => k
  | _, _, _, _, .cons h t, k => .cons h (dvAll_append t k)
theorem dv_mid {H : Hp} {ts : List (Addr × List Int)} {i : Nat} {v : V} {e : PyData} {p : Addr} (rows : ∀ t ∈ ts, H t.1 = some (.lst (t.2.map V.int))) (De : Dv H v e) (hp : H p = some (.lst ((ts.map fun t => V.ref t.1).take i ++ [v] ++ (ts.map fun t => V.ref t.1).drop (i + 1)))) :
    Dv H (.ref p) (.list (((rsOf ts).take i).map lstP ++ e :: ((rsOf ts).drop (i + 1)).map lstP)) := by
  refine .lst hp ?_
  have e1 : (rsOf ts).take i = rsOf (ts.take i) := by
    unfold rsOf
    rw [List.map_take]
  have e2 : (rsOf ts).drop (i + 1) = rsOf (ts.drop (i + 1)) := by
    unfold rsOf
    rw [List.map_drop]
  rw [e1, e2, ← List.map_take, ← List.map_drop, List.append_assoc]
  exact dvAll_append (dv_rowsL fun t ht => rows t (List.mem_of_mem_take ht)) (.cons De (dv_rowsL fun t ht => rows t (List.mem_of_mem_drop ht)))
theorem size_mid {rs : List (List Int)} {i : Nat} {e : PyData} (hi : i < rs.length) (hz : rs.length ≤ 1000) (he : (itemsD e).length ≤ 1000) (hr : ∀ r ∈ rs, r.length ≤ 1000) :
    (itemsD (.list ((rs.take i).map lstP ++ e :: (rs.drop (i + 1)).map lstP))).length ≤ 1000 ∧ ∀ q ∈ itemsD (.list ((rs.take i).map lstP ++ e :: (rs.drop (i + 1)).map lstP)), (itemsD q).length ≤ 1000 := by
  have e0 : itemsD (.list ((rs.take i).map lstP ++ e :: (rs.drop (i + 1)).map lstP)) = (rs.take i).map lstP ++ e :: (rs.drop (i + 1)).map lstP := rfl
  rw [e0]
  have hrow : ∀ r ∈ rs, (itemsD (lstP r)).length ≤ 1000 := fun r hr' => by
    show (r.map PyData.int).length ≤ 1000
    rw [List.length_map]
    exact hr r hr'
  refine ⟨?_, fun q hq => ?_⟩
  · rw [List.length_append, List.length_cons, List.length_map, List.length_map, List.length_take, List.length_drop]
    omega
  · rcases List.mem_append.mp hq with h | h
    · obtain ⟨r, hr', rfl⟩ := List.mem_map.mp h
      exact hrow r (List.mem_of_mem_take hr')
    · rcases List.mem_cons.mp h with h | h
      · rw [h]
        exact he
      · obtain ⟨r, hr', rfl⟩ := List.mem_map.mp h
        exact hrow r (List.mem_of_mem_drop hr')
section
variable {P : Program} {w : World} {K : PySem.W.Frag} {mg : Str → Option Value} {base : Heap}
end
end Lk

set_option Elab.async false
set_option linter.all false
set_option maxRecDepth 100000
set_option maxHeartbeats 4000000
namespace Lk
open PySem L2
theorem rows_of {F : List Int → List Int} {ts us : List (Addr × List Int)} (hl : us.length = ts.length) (h : ∀ (i : Nat) t, us[i]? = some t → ∃ u, ts[i]? = some u ∧ t.2 = F u.2) : rsOf us = (rsOf ts).map F := by
  refine List.ext_getElem? fun k => ?_
  rw [List.getElem?_map]
  cases hk : us[k]? with
  | none =>
    have q1 : us.length ≤ k := List.getElem?_eq_none_iff.mp hk
    have q2 : (rsOf ts)[k]? = none := List.getElem?_eq_none_iff.mpr (by rw [rsOf_len]; omega)
    have q3 : (rsOf us)[k]? = none := List.getElem?_eq_none_iff.mpr (by rw [rsOf_len]; exact q1)
    rw [q2, q3] <;> rfl
  | some t =>
    obtain ⟨u, hu, e⟩ := h k t hk
    rw [rsOf_get hk, rsOf_get hu, e] <;> rfl
section
variable {K : PySem.W.Frag} {j : Nat} {te : TE} {σ : St} {H1 : Hp} {D : Addr} {Qd : Hp → Prop} {d l : Addr}
/-- rows made of a list's rows, in new lists -/
theorem lcF {a : Addr} {ts : List (Addr × List Int)} (F : List Int → List Int) (hD : H1 D = none) (hI : DealAt H1 d l) (G : GridAt H1 a ts) (na : ¬ dl d l a) (nt : ∀ t ∈ ts, ¬ dl d l t.1) (hn : ts.length ≤ 1000)
    (hs : ∀ u ∈ ts, ∀ H, DealAt H d l → SB d l H1 H → H u.1 = some (.lst (u.2.map V.int)) → ∀ Q : VK, (∀ b, H b = none → Q (.ref b) (upd H b (.lst ((F u.2).map V.int)))) → te ((wipe σ [j]).set j (some (.ref u.1))) H Q)
    (hd : ∀ us H', rsOf us = (rsOf ts).map F → NewG H1 D us → GridAt H' D us → DealAt H' d l → SB d l H1 H' → Qd H') :
    ∃ W : Nat → Nat → Hp → Prop, (∃ m, W 0 m (upd H1 D (.lst []))) ∧ ∀ i m H, W i m H →
      ((Itl K a).stop i H ∧ Qd H) ∨ ((Itl K a).go i H ∧ ∃ Nx : Hp → Prop, (∀ H', Nx H' → ∃ m', m' < m ∧ W (i + 1) m' H') ∧ ∀ x H', (Itl K a).yld i H x H' → gName j x (wipe σ [j]) H' fun σ2 H2 => wipe σ2 [j] = wipe σ [j] ∧ tYes σ2 H2 fun b H3 =>
        if b = true then te σ2 H3 fun y H4 => ∃ acc, H4 D = some (.lst acc) ∧ acc.length < sizeLine ∧ Nx (upd H4 D (.lst (acc ++ [y]))) else Nx H3) := by
  refine lcGL (K := K) (a := a) (xs := ts.map fun t => V.ref t.1) (fun i r => ∃ u, ts[i]? = some u ∧ r = F u.2) hD hI (by rw [List.length_map]; omega) (fun H3 k3 => SqL.of (k3.kp.get na G.top)) (fun i x H3 hi x3 k3 Q3 kQ => ?_) (fun us H3 hl hz hN hG x3 k3 => ?_)
  · rw [List.getElem?_map] at hi
    obtain ⟨u, hu, rfl⟩ : ∃ u, ts[i]? = some u ∧ V.ref u.1 = x := by
      cases e : ts[i]? with
      | none => rw [e] at hi; cases hi
      | some u => rw [e] at hi; exact ⟨u, rfl, Option.some.inj hi⟩
    have hm := mem_of_get hu
    exact hs u hm H3 x3 k3 (k3.kp.get (nt u hm) (G.row u hm)) Q3 fun b hb => kQ b (F u.2) _ (x3.new hb) (SB.new hb) hb upd_same ⟨u, hu, rfl⟩
  · rw [List.length_map] at hl
    exact hd us H3 (rows_of hl hz) hN hG x3 k3
/-- what is made in new tuples -/
theorem lcFT {a : Addr} {ts : List (Addr × List Int)} (hD : H1 D = none) (hI : DealAt H1 d l) (G : GridAt H1 a ts) (na : ¬ dl d l a) (nt : ∀ t ∈ ts, ¬ dl d l t.1) (hn : ts.length ≤ 1000)
    (hs : ∀ u ∈ ts, ∀ H, DealAt H d l → SB d l H1 H → H u.1 = some (.lst (u.2.map V.int)) → ∀ Q : VK, (∀ b, H b = none → Q (.ref b) (upd H b (.tup (u.2.map V.int)))) → te ((wipe σ [j]).set j (some (.ref u.1))) H Q)
    (hd : ∀ (us : List (Addr × List Int)) H', rsOf us = rsOf ts → H' D = some (.lst (us.map fun u => V.ref u.1)) → (∀ u ∈ us, H' u.1 = some (.tup (u.2.map V.int))) → (∀ u ∈ us, u.1 ≠ D) → DealAt H' d l → SB d l H1 H' → Qd H') :
    ∃ W : Nat → Nat → Hp → Prop, (∃ m, W 0 m (upd H1 D (.lst []))) ∧ ∀ i m H, W i m H →
      ((Itl K a).stop i H ∧ Qd H) ∨ ((Itl K a).go i H ∧ ∃ Nx : Hp → Prop, (∀ H', Nx H' → ∃ m', m' < m ∧ W (i + 1) m' H') ∧ ∀ x H', (Itl K a).yld i H x H' → gName j x (wipe σ [j]) H' fun σ2 H2 => wipe σ2 [j] = wipe σ [j] ∧ tYes σ2 H2 fun b H3 =>
        if b = true then te σ2 H3 fun y H4 => ∃ acc, H4 D = some (.lst acc) ∧ acc.length < sizeLine ∧ Nx (upd H4 D (.lst (acc ++ [y]))) else Nx H3) := by
  have nD : ¬ dl d l D := hI.free hD
  refine lcL (K := K) (a := a) (xs := ts.map fun t => V.ref t.1) (dl d l) (fun H => DealAt H d l) (fun i y H' => ∃ t : Addr × List Int, y = V.ref t.1 ∧ H1 t.1 = none ∧ t.1 ≠ D ∧ H' t.1 = some (.tup (t.2.map V.int)) ∧ ∃ u, ts[i]? = some u ∧ t.2 = u.2) hD nD (by rw [List.length_map]; omega) hI (fun H o x => x.upd nD)
    (fun i y H H' k ⟨t, e, h1, h2, h3, h4⟩ => ⟨t, e, h1, h2, k.get (fun q => q.elim (hI.free h1) h2) h3, h4⟩) (fun H k => SqL.of (k.get na G.top)) (fun i x H acc hi x3 k3 hDa Q kQ => ?_) (fun ys H' hl hf hD' x3 k3 => ?_)
  · rw [List.getElem?_map] at hi
    obtain ⟨u, hu, rfl⟩ : ∃ u, ts[i]? = some u ∧ V.ref u.1 = x := by
      cases e : ts[i]? with
      | none => rw [e] at hi; cases hi
      | some u => rw [e] at hi; exact ⟨u, rfl, Option.some.inj hi⟩
    have hm := mem_of_get hu
    refine hs u hm H x3 k3.sb (k3.get (nt u hm) (G.row u hm)) Q fun b hb => kQ _ _ (x3.new hb) (KP.new hb) ⟨(b, u.2), rfl, k3.free (x3.free hb) hb, fun e => ?_, upd_same, u, hu, rfl⟩
    have e' : b = D := e
    rw [e', hDa] at hb
    cases hb
  · obtain ⟨us, rfl, ht⟩ := collect (g := fun u : Addr × List Int => V.ref u.1) hf
    rw [List.length_map, List.length_map] at hl
    have hm : ∀ t ∈ us, t.1 ≠ D ∧ H' t.1 = some (.tup (t.2.map V.int)) := fun t h => by
      obtain ⟨i, hi⟩ := List.getElem?_of_mem h
      exact ⟨(ht i t hi).2.1, (ht i t hi).2.2.1⟩
    refine hd us H' ?_ hD' (fun u hu => (hm u hu).2) (fun u hu => (hm u hu).1) x3 k3.sb
    have e := rows_of (F := id) hl fun i t hi => (ht i t hi).2.2.2
    rw [e, List.map_id]
/-- over enumerate of a list, into the slots i and j -/
theorem lcE {i j : Nat} {a : Addr} {xs : List V} (S : Addr → Prop) (I : Hp → Prop) (f : Nat → V → Hp → Prop) (hD : H1 D = none) (hS : ¬ S D) (hn : xs.length ≤ 1000000) (hI : I H1) (mI : ∀ H p o, ¬ S p → I H → I (upd H p o)) (fr : ∀ H p, I H → H p = none → ¬ S p)
    (mf : ∀ i y H H', KP (fun a => S a ∨ a = D) H H' → f i y H → f i y H') (ha : ∀ H, KP S H1 H → SqL K H a xs) (hw : ∀ x y : V, wipe (((wipe σ [i, j]).set i (some x)).set j (some y)) [i, j] = wipe σ [i, j])
    (hs : ∀ k x H acc, xs[k]? = some x → I H → KP S H1 H → H D = some (.lst acc) → ∀ Q : VK, (∀ y H4, I H4 → KP S H H4 → f k y H4 → Q y H4) → te (((wipe σ [i, j]).set i (some (.int (k : Int)))).set j (some x)) H Q)
    (hd : ∀ ys H', ys.length = xs.length → (∀ i y, ys[i]? = some y → f i y H') → H' D = some (.lst ys) → I H' → KP S H1 H' → Qd H') :
    ∃ W : Nat → Nat → Hp → Prop, (∃ m, W 0 m (upd H1 D (.lst []))) ∧ ∀ k m H, W k m H →
      ((Ite K a).stop k H ∧ Qd H) ∨ ((Ite K a).go k H ∧ ∃ Nx : Hp → Prop, (∀ H', Nx H' → ∃ m', m' < m ∧ W (k + 1) m' H') ∧ ∀ x H', (Ite K a).yld k H x H' → gTup K 2 (gCons (gName i) (gCons (gName j) gNil)) x (wipe σ [i, j]) H' fun σ2 H2 => wipe σ2 [i, j] = wipe σ [i, j] ∧ tYes σ2 H2 fun b H3 =>
        if b = true then te σ2 H3 fun y H4 => ∃ acc, H4 D = some (.lst acc) ∧ acc.length < sizeLine ∧ Nx (upd H4 D (.lst (acc ++ [y]))) else Nx H3) := by
  refine ⟨fun k m H => m = xs.length - k ∧ k ≤ xs.length ∧ Lcp S I f H1 D k H, ⟨xs.length, rfl, Nat.zero_le _, Lcp.zero hD (fun H o x => mI H D o hS x) hI⟩, ?_⟩
  rintro k m H ⟨rfl, hk, p⟩
  have qa := ha H p.2.1
  by_cases hlt : k < xs.length
  · have ga : xs[k]? = some xs[k] := List.getElem?_eq_getElem hlt
    refine .inr ⟨⟨xs, _, qa, ga⟩, fun H => Lcp S I f H1 D (k + 1) H, fun H' q => ⟨xs.length - (k + 1), by omega, rfl, hlt, q⟩, ?_⟩
    rintro v H' ⟨T, x, rfl, hT, rfl, f1⟩
    have ex := f1 _ qa
    rw [ga] at ex
    obtain rfl := Option.some.inj ex
    have nT := fr _ _ p.1 hT
    have hTD : T ≠ D := fun e => by
      obtain ⟨_, _, ys, e2, _⟩ := p
      rw [e, e2] at hT
      cases hT
    obtain ⟨p1, p2, ys, e, hl, hf⟩ := p
    have pT : Lcp S I f H1 D k (upd H T (.tup [V.int (k : Int), xs[k]])) := ⟨mI _ _ _ nT p1, p2.trans (KP.new hT), ys, (upd_ne (Ne.symm hTD)).trans e, hl, fun i y hy => mf _ _ _ _ (KP.new hT) (hf i y hy)⟩
    refine ⟨T, _, rfl, SqT.of upd_same, rfl, _, _, rfl, _, _, rfl, rfl, hw _ _, iteT (B := Lcp S I f H1 D (k + 1) (upd H T (.tup [V.int (k : Int), xs[k]]))) ?_⟩
    exact hs k _ _ ys ga pT.1 pT.2.1 ((upd_ne (Ne.symm hTD)).trans e) _ fun y H4 h1 h2 h3 => pT.step hD hS (fun H o x => mI H D o hS x) mf (by omega) h1 h2 h3
  · have e : k = xs.length := by omega
    subst e
    obtain ⟨p1, p2, ys, e, hl, hf⟩ := p
    exact .inl ⟨⟨_, qa, Nat.le_refl _⟩, hd ys H hl hf e p1 p2⟩
end
end Lk

set_option Elab.async false
set_option linter.all false
set_option maxRecDepth 100000
set_option maxHeartbeats 4000000
namespace Lk
open PySem L2
/-- a deal, a drawn machine's data in lists, and a machine made of it -/
structure Game (CM : Addr) (H : Hp) (d l a m : Addr) (A : Nat) (ts us : List (Addr × List Int)) : Prop where
  D : DealAt H d l
  G : GridAt H a ts
  na : ¬ dl d l a
  nt : ∀ t ∈ ts, ¬ dl d l t.1
  R : RowsOk A ts
  A0 : 0 < A
  A5 : A ≤ 5
  hz : ts.length ≤ 100
  M : MachAt CM H m A us
  e : rsOf us = rsOf ts
theorem Game.go {CM : Addr} {H H' : Hp} {d l a m : Addr} {A : Nat} {ts us : List (Addr × List Int)} (g : Game CM H d l a m A ts us) (D' : DealAt H' d l) (S : SB d l H H') : Game CM H' d l a m A ts us :=
  ⟨D', g.G.kp S.kp g.na g.nt, g.na, g.nt, g.R, g.A0, g.A5, g.hz, g.M.nl (NL.of_sb S g.D), g.e⟩
theorem Game.new {CM : Addr} {H : Hp} {d l a m p : Addr} {o : HO} {A : Nat} {ts us : List (Addr × List Int)} (g : Game CM H d l a m A ts us) (h : H p = none) : Game CM (upd H p o) d l a m A ts us :=
  g.go (g.D.new h) (SB.new h)
theorem Game.same {CM : Addr} {H H' : Hp} {d l a m : Addr} {A : Nat} {ts us : List (Addr × List Int)} (g : Game CM H d l a m A ts us) (S : Same H H') : Game CM H' d l a m A ts us := by
  obtain ⟨bs, b, x⟩ := g.D
  exact g.go ⟨bs, b, S _ _ x.hd, S _ _ x.hl, x.pos, x.len, x.b0, x.b1⟩ (KP.same S).sb
theorem Game.rows {CM : Addr} {H : Hp} {d l a m : Addr} {A : Nat} {ts us : List (Addr × List Int)} (g : Game CM H d l a m A ts us) : Rs A (rsOf ts) := g.R.rs
theorem DealAt.same {H H' : Hp} {d l : Addr} (x : DealAt H d l) (S : Same H H') : DealAt H' d l := by
  obtain ⟨bs, b, x⟩ := x
  exact ⟨bs, b, S _ _ x.hd, S _ _ x.hl, x.pos, x.len, x.b0, x.b1⟩
/-- what the top says of == of the class -/
structure EqT (P : Program) (w : World) (K : PySem.W.Frag) (mg : Str → Option Value) (base : Heap) (CM fE : Addr) (fdE : FuncData) : Prop where
  G : FnOk P w K mg base CX0 1 fE fdE P_Machine___eq (spEqM CM)
  b : Binds K fdE P_Machine___eq []
  T : TxE K mg CM fE
theorem stepsRes_first {A : Int} {ds : List PyData} {i : Nat} {e : PyData} (hi : ds[i]? = some e) (he : isE A (ds.length : Int) e = false) (h : ∀ d ∈ ds.take i, isE A (ds.length : Int) d = true) : stepsRes A (.list ds) = some (2 + (i : Int)) := by
  have hlt := cases_list hi
  have e1 : ds = ds.take i ++ e :: ds.drop (i + 1) := by
    rw [← drop_get hi, List.take_append_drop]
  have e0 : itemsD (.list ds) = ds := rfl
  unfold stepsRes
  rw [if_neg (fun q => q.elim (fun e => by cases e) fun e => by
    have e' : ds = [] := e
    rw [e'] at hlt
    simp at hlt), e0]
  have e2 : badAt A (ds.length : Int) ds 0 = some i := by
    have q : badAt A (ds.length : Int) (ds.take i ++ e :: ds.drop (i + 1)) 0 = some (0 + (ds.take i).length) := badAt_at he h
    rw [← e1, List.length_take, Nat.min_eq_left (by omega), Nat.zero_add] at q
    exact q
  rw [e2] <;> rfl
theorem dvAll_of {H : Hp} : ∀ {xs : List V} {ds : List PyData}, xs.length = ds.length → (∀ (k : Nat) y, xs[k]? = some y → ∃ d, ds[k]? = some d ∧ Dv H y d) → DvAll H xs ds
  | [], [], _, _ => .nil
  | [], _ :: _, h, _ => by simp at h
  | _ :: _, [], h, _ => by simp at h
  | x :: xs, d :: ds, h, f => by
    obtain ⟨d', e, Dx⟩ := f 0 x rfl
    have e' : d = d' := Option.some.inj e
    rw [← e'] at Dx
    exact .cons Dx (dvAll_of (Nat.succ.inj h) fun k y hk => f (k + 1) y hk)
theorem zero_rows {A : Nat} {rs : List (List Int)} (x : Rs A rs) (h : rs.length = 1) : rs = [List.replicate A 0] := by
  match rs, h with
  | [r], _ =>
    obtain ⟨h1, h2⟩ := x.row r List.mem_cons_self
    have e : r = List.replicate A 0 := List.eq_replicate_iff.mpr ⟨h1, fun z hz => by
      have := h2 z hz
      simp at this
      omega⟩
    rw [e]
theorem makeRes_int {A : Nat} {ds : PyData} (h : 0 < A) : makeRes (.int (A : Int)) ds = stepsRes (A : Int) ds := by
  unfold makeRes
  rw [if_neg (by
    show ¬ decide ((A : Int) ≤ 0) = true
    rw [decide_eq_false (by omega)]
    decide)]
  rfl
def spUnlike (CM : Addr) : Sp := fun vs H Q _ => ∃ (d l a m : Addr) (A : Nat) (ts us : List (Addr × List Int)), vs = [.ref d, .int (A : Int), .ref a, .ref m] ∧ Game CM H d l a m A ts us ∧ ∀ H', DealAt H' d l → SB d l H H' → Q (.bl true) H'
/-- a machine of rows in lists is made -/
theorem make_rows {CM CE : Addr} {H1 : Hp} {a : Addr} {A : Nat} {ts : List (Addr × List Int)} {Q : Addr → Hp → Prop} {E : XK} (hA : 0 < A) (h5 : A ≤ 1000) (G : GridAt H1 a ts) (R : Rs A (rsOf ts)) (hz : ts.length ≤ 1000)
    (h : ∀ H' m us, Same H1 H' → H1 m = none → MachAt CM H' m (A : Int) us → rsOf us = rsOf ts → Q m H') :
    ∀ x0 dx, H1 x0 = none → H1 dx = none → dx ≠ x0 → spInit CM CE (.ref x0 :: ([.int (A : Int), .ref a] ++ [])) (upd (upd H1 dx (.own x0)) x0 (.ins CM dx [])) (fun v H2 => v = .non ∧ Q x0 H2) E := by
  refine make_any (dc := .int (A : Int)) (ds := .list ((rsOf ts).map lstP)) (.int _) (.lst G.top (dv_rowsL G.row)) ?_ (fun e he => ?_) ?_
  · show ((rsOf ts).map lstP).length ≤ 1000
    rw [List.length_map, rsOf_len]
    exact hz
  · obtain ⟨r, hr, rfl⟩ := List.mem_map.mp he
    show (r.map PyData.int).length ≤ 1000
    rw [List.length_map, (R.row r hr).1]
    exact h5
  · have e : makeRes (.int (A : Int)) (.list ((rsOf ts).map lstP)) = none := by
      unfold makeRes
      rw [if_neg (by
        show ¬ decide ((A : Int) ≤ 0) = true
        rw [decide_eq_false (by omega)]
        decide)]
      exact stepsRes_rows (A := A) (g := lstP) rfl rfl (fun n r h => isE_lst h) R
    rw [e]
    refine fun H' m us S hm M eR => h H' m us S hm M ?_
    rw [eR]
    exact map_rowD rowD_lst _
section
variable {P : Program} {w : World} {K : PySem.W.Frag} {mg : Str → Option Value} {base : Heap} {CM CE fI fE : Addr} {fdI fdE : FuncData}
end
end Lk

set_option Elab.async false
set_option linter.all false
set_option maxRecDepth 100000
set_option maxHeartbeats 4000000
namespace Lk
open PySem L2
/-! ### what is shown by repr -/
structure Sh (d : PyData) : Prop where
  s : d.showable = true
  n : d.hasDict = false
  l : d.leavesShort 13 = true
  w : d.weight ≤ 1000000
  dp : d.depth ≤ 8
theorem Sh.size {d : PyData} (x : Sh d) : d.shown.length ≤ sizeLine := PyData.shown_fits (B := 13) (by decide) (by decide) x.l (Nat.le_trans x.w (by decide))
theorem weight_int {z : Int} (h : z.natAbs < 2 ^ 30) : (PyData.int z).weight ≤ 31 := by
  show (if z == 0 then 0 else z.natAbs.log2 + 1) ≤ 31
  by_cases h0 : (z == 0) = true
  · rw [if_pos h0]
    decide
  · rw [if_neg h0]
    have hz : z.natAbs ≠ 0 := by
      have : ¬ z = 0 := by simpa using h0
      omega
    have := (Nat.log2_lt hz).mpr h
    omega
theorem show_int {z : Int} (h : z.natAbs < 2 ^ 30) : (PyData.int z).showable = true ∧ (PyData.int z).leavesShort 13 = true := by
  refine ⟨decide_eq_true ?_, ?_⟩
  · by_cases hz : z.natAbs = 0
    · rw [hz]
      decide
    · exact Nat.lt_trans ((Nat.log2_lt hz).mpr h) (by decide)
  · exact decide_eq_true (PyData.shown_int_le (Nat.lt_trans h (by decide)))
theorem sh_int {z : Int} (h : z.natAbs < 2 ^ 30) : Sh (.int z) := ⟨(show_int h).1, rfl, (show_int h).2, Nat.le_trans (weight_int h) (by decide), by show 0 ≤ 8; decide⟩
theorem show_ints : ∀ {r : List Int}, (∀ z ∈ r, z.natAbs < 2 ^ 30) → PyData.showableAll (r.map PyData.int) = true ∧ PyData.hasDictAll (r.map PyData.int) = false ∧ PyData.leavesShortAll 13 (r.map PyData.int) = true ∧ PyData.weightAll (r.map PyData.int) ≤ 32 * r.length
  | [], _ => ⟨rfl, rfl, rfl, Nat.le_refl _⟩
  | z :: r, h => by
    obtain ⟨h1, h2, h3, h4⟩ := show_ints fun y hy => h y (List.mem_cons_of_mem _ hy)
    obtain ⟨i1, i2⟩ := show_int (h z List.mem_cons_self)
    have i3 := weight_int (h z List.mem_cons_self)
    refine ⟨?_, ?_, ?_, ?_⟩
    · show ((PyData.int z).showable && PyData.showableAll (r.map PyData.int)) = true
      rw [i1, h1] <;> rfl
    · show (false || PyData.hasDictAll (r.map PyData.int)) = false
      rw [h2] <;> rfl
    · show ((PyData.int z).leavesShort 13 && PyData.leavesShortAll 13 (r.map PyData.int)) = true
      rw [i2, h3] <;> rfl
    · show (PyData.int z).weight + 1 + PyData.weightAll (r.map PyData.int) ≤ 32 * (r.length + 1)
      omega
theorem sh_row {r : List Int} (h : ∀ z ∈ r, z.natAbs < 2 ^ 30) (hl : r.length ≤ 10000) : Sh (rowP r) := by
  obtain ⟨h1, h2, h3, h4⟩ := show_ints h
  refine ⟨h1, h2, h3, Nat.le_trans h4 (by omega), ?_⟩
  have e : (rowP r).depth = PyData.depthAll (r.map PyData.int) + 1 := rfl
  have := depth_ints r
  omega
theorem show_rows {m : Nat} : ∀ {rs : List (List Int)}, (∀ r ∈ rs, r.length ≤ m ∧ ∀ z ∈ r, z.natAbs < 2 ^ 30) → PyData.showableAll (rs.map rowP) = true ∧ PyData.hasDictAll (rs.map rowP) = false ∧ PyData.leavesShortAll 13 (rs.map rowP) = true ∧ PyData.weightAll (rs.map rowP) ≤ (32 * m + 1) * rs.length
  | [], _ => ⟨rfl, rfl, rfl, Nat.zero_le _⟩
  | r :: rs, h => by
    obtain ⟨h1, h2, h3, h4⟩ := show_rows fun y hy => h y (List.mem_cons_of_mem _ hy)
    obtain ⟨hl, hz⟩ := h r List.mem_cons_self
    obtain ⟨i1, i2, i3, i4⟩ := show_ints hz
    refine ⟨?_, ?_, ?_, ?_⟩
    · show (PyData.showableAll (r.map PyData.int) && PyData.showableAll (rs.map rowP)) = true
      rw [i1, h1] <;> rfl
    · show (PyData.hasDictAll (r.map PyData.int) || PyData.hasDictAll (rs.map rowP)) = false
      rw [i2, h2] <;> rfl
    · show (PyData.leavesShortAll 13 (r.map PyData.int) && PyData.leavesShortAll 13 (rs.map rowP)) = true
      rw [i3, h3] <;> rfl
    · show PyData.weightAll (r.map PyData.int) + 1 + PyData.weightAll (rs.map rowP) ≤ (32 * m + 1) * (rs.length + 1)
      have : 32 * r.length ≤ 32 * m := Nat.mul_le_mul_left _ hl
      rw [Nat.mul_add]
      omega
/-- a machine's fields, as they are told -/
def machP (A n : Int) (rs : List (List Int)) : PyData := .tuple [.int A, .int n, .tuple (rs.map rowP)]
theorem sh_mach {A n : Int} {rs : List (List Int)} (hA : A.natAbs < 2 ^ 30) (hn : n.natAbs < 2 ^ 30) (h : ∀ r ∈ rs, r.length ≤ 5 ∧ ∀ z ∈ r, z.natAbs < 2 ^ 30) (hl : rs.length ≤ 1000) : Sh (machP A n rs) := by
  obtain ⟨h1, h2, h3, h4⟩ := show_rows h
  obtain ⟨a1, a2⟩ := show_int hA
  obtain ⟨b1, b2⟩ := show_int hn
  have a3 := weight_int hA
  have b3 := weight_int hn
  refine ⟨?_, ?_, ?_, ?_, ?_⟩
  · show ((PyData.int A).showable && ((PyData.int n).showable && (PyData.showableAll (rs.map rowP) && true))) = true
    rw [a1, b1, h1] <;> rfl
  · show (false || (false || (PyData.hasDictAll (rs.map rowP) || false))) = false
    rw [h2] <;> rfl
  · show ((PyData.int A).leavesShort 13 && ((PyData.int n).leavesShort 13 && (PyData.leavesShortAll 13 (rs.map rowP) && true))) = true
    rw [a2, b2, h3] <;> rfl
  · show (PyData.int A).weight + 1 + ((PyData.int n).weight + 1 + (PyData.weightAll (rs.map rowP) + 1 + 0)) ≤ 1000000
    omega
  · have e : (machP A n rs).depth = max 0 (max 0 (max (PyData.depthAll (rs.map rowP) + 1) 0)) + 1 := rfl
    have := depth_rows rs
    omega
/-- repr of an int, or of lists and tuples -/
def rRepr (K : PySem.W.Frag) : List V → Hp → VK → Prop := fun xs H Q => ∃ (x : V) (d : PyData), xs = [x] ∧ Dp K H x d ∧ ((∃ i, x = .int i) ∨ ∃ a, x = .ref a) ∧ Sh d ∧ Q (.str d.shown) H
theorem call_repr {X : Cx} (hg : X.A.guards = some []) (hu : X.A.units + 16 < cLine) : CallR X (.builtin "repr") (rRepr X.K) := by
  intro pins s σ H xs us Q I r h
  obtain ⟨x, d, rfl, D, hk, sh, q⟩ := h
  obtain ⟨u, rfl, ru⟩ := Vals.one r
  rcases hk with ⟨i, rfl⟩ | ⟨a, rfl⟩
  · cases D
    obtain ⟨t, rfl⟩ := ru
    exact PySem.P.repr_of_int (of_decide_eq_true sh.s) ⟨.str _, H, I.tok _, ⟨_, rfl⟩, q⟩
  · obtain rfl : u = Value.ref a := ru
    obtain ⟨as, rd⟩ := Dp.reads I d _ _ D rfl
    refine PySem.repr_of_reads' rd sh.s (fun h' => by rw [sh.n] at h'; cases h') hg (by have := sh.dp; omega) (fun b o e => e) (fun h' w tk hk => ⟨.str d.shown, H, ?_, ⟨_, rfl⟩, q⟩) sh.size
    exact I.kept (t' := tk) hk
end Lk

set_option Elab.async false
set_option linter.all false
set_option maxRecDepth 100000
set_option maxHeartbeats 4000000
namespace Lk
open PySem PySem.Spec PyProof.Rows L2
/-! ### defs that run where no repr is under way -/
structure FnG (P : Program) (w : World) (K : PySem.W.Frag) (mg : Str → Option Value) (base : Heap) (k : Nat) (f : Addr) (fd : FuncData) (ps : List Str) (sp : Sp) : Prop where
  len : ∀ vs H Q E, sp vs H Q E → vs.length = ps.length
  run : ∀ (A : Around) (outer : List Env) (s : Shared) (H : Hp) (args : Args) (us : List Value) (vs : List V) (Q : VK) (E : XK), A.guards = some [] → Room k A → Env0 P w K mg base A outer s H → BindsTo s fd args (ps.zip us) → Vals vs us → sp vs H Q E →
    codeAny (model P w) A (.call (.ref f) args) (CR CX0 outer P w H s Q E) s
section
variable {P : Program} {w : World} {K : PySem.W.Frag} {mg : Str → Option Value} {base : Heap}
theorem Fun.okG {x qual : Str} {st : Stmt} {f : Addr} {fd : FuncData} {N ps : List Str} {k : Nat} {sp : Sp} (F : Fun K x qual st f fd) (S : FnScope N ps (defScope st)) (len : ∀ vs H Q E, sp vs H Q E → vs.length = ps.length)
    (body : ∀ (cdv : Value) (A : Around) (outer : List Env) (s : Shared) (H : Hp) (vs : List V) (Q : VK) (E : XK), A.guards = some [] → Room k (A.deeper (envOfC qual (defScope st) s.heap.objs.size f cdv)) → sp vs H Q E →
      ∃ t, PSs (cxOf CX0 P w K mg base N qual (defScope st) f cdv A outer s H E).nox (defBody st) t ∧ t { nx := fun _ H' => Q .non H', rt := Q } (start N vs) H) : FnG P w K mg base (k + 1) f fd ps sp := by
  obtain ⟨oc, od, kV, doc, pm, an, cdv, ct, osl, rfl, lk, hcd⟩ := F.ex
  refine ⟨len, fun A outer s H args us vs Q E hg hr e0 hb r h => ?_⟩
  have keep : ∀ b o, base.get? b = some o → s.heap.get? b = some o := fun b o e => (e0.bs b o e).1
  have kx := e0.mod.kin.keeps keep
  have kinds : ∀ q ∈ ps.zip us, (defScope st).names.lookup q.1 = some .local ∨ ((defScope st).names.lookup q.1 = some .cell ∧ ((cellsFrom (s.heap.objs.size + 1) (defScope st).names []).lookup q.1).isSome = true) := fun q hq => by
    rcases S.par q.1 (List.of_mem_zip hq).1 with z | z
    · exact .inl z
    · exact .inr ⟨z, PySem.W.cellsFrom_some _ _ _ (.inl z)⟩
  refine codeAny_call_function hr.depth (kx _ _ lk) rfl S.co S.gen rfl (PySem.W.codeRec_of kx hcd) (hb _ _ _ _ (wpAny_newFunctionEnv_cells S.kind kinds fun env he s1 z => ?_))
  subst he
  refine ⟨(e0.mod.nolimit.keeps keep).keeps z.toInCall.keep, codeAny_func ?_⟩
  obtain ⟨t, ht, q⟩ := body cdv A outer s H vs Q E hg (hr.deeper _) h
  have I := inv_start (CX := CX0) (E := E) (mg := mg) (f := f) (cd := cdv) (qual := qual) S hr.hd e0 (len _ _ _ _ h) r z
  refine wpAny_mono (ht.nox.run [] s1 (start N vs) H _ I q) (fun fl s2 hs => ?_) fun e s2 hs => hs
  match fl, hs with
  | .ret u, ⟨v, σ2, H2, J, rv, k⟩ => exact ⟨v, H2, J.os, J.bare, J.base, J.hok, rv, k⟩
  | .next, ⟨σ2, H2, J, k⟩ => exact ⟨.non, H2, J.os, J.bare, J.base, J.hok, rfl, k⟩
  | .brk, ⟨_, _, _, k⟩ => exact k.elim
  | .cont, ⟨_, _, _, k⟩ => exact k.elim
end
section
variable {X : Cx} {k : Nat} {f : Addr} {fd : FuncData} {ps : List Str} {sp : Sp} {x : Str} {p pos : Pos} {e : Expr} {es : List Expr} {t : TA}
theorem pe_callG (G : FnG X.prog X.w X.K X.mg X.base k f fd ps sp) (quiet : X.A.guards = some []) (room : Room k X.A) (gx : Gl X x) (mx : X.mg x = some (.ref f)) (kp : PySem.W.keepIn X.K (.ref f) = true) (bd : Binds X.K fd ps []) (args : PA X (e :: es) t)
    (h1 : (x == ("__debug__" : Str)) = false := by decide) (h2 : starEach (e :: es) X.env = (false, eval e X.env) :: starEach es X.env := by rfl) (h3 : (backTo pos (starEach es X.env)).any (·.1) = false := by rfl) :
    PE X (.Call (.Name x p) (e :: es) [] pos) (tCall sp [] E0 t) := by
  refine ⟨fun pins s σ H Q I h => wpAny_Call_Name_kw (ld_glob I gx mx (PySem.W.callWith_K (h₀ := X.base) I.ok.mod.kin kp (thn (args.run pos pins s σ H _ I h) fun us s1 ⟨vs, H1, I1, r, q⟩ => ⟨I1.kIn, ?_⟩) h2 h3) h1)⟩
  have q : sp (vs ++ []) H1 Q E0 := q
  rw [List.append_nil] at q
  have hl : us.length = ps.length := by rw [← r.length]; exact G.len _ _ _ _ q
  have b := bd s1 us I1.kIn (by rw [List.append_nil]; exact hl)
  rw [List.append_nil] at b
  refine wpAny_call (codeAny_mono (G.run X.A X.stack s1 H1 ⟨us, []⟩ us vs Q E0 quiet room I1.env0 b r q) fun z s2 q2 => ?_)
  match z, q2 with
  | .error e, q2 => exact q2.elim
  | .ok (.ret u), q2 => exact I1.after q2
  | .ok .next, q2 => exact q2.elim
  | .ok .brk, q2 => exact q2.elim
  | .ok .cont, q2 => exact q2.elim
end
end Lk

set_option Elab.async false
set_option linter.all false
set_option maxRecDepth 100000
set_option maxHeartbeats 4000000
/-! the law's end, for a law that runs where no repr is under way -/
namespace Lk
open PySem PySem.Spec PyProof.Rows L2
section
variable {P : Program} {w : World} {K : PySem.W.Frag} {mg mb : Str → Option Value} {k : Nat} {fa a : Addr} {fd : FuncData} {x : Str} {sp : Sp} {s : Shared} {vs : List Value} {ns : List Int}
/-- what the law's call leaves -/
abbrev Fine (s : Shared) (r : Result) (s' : Shared) : Prop := r = .ok (.ret (.bool true)) ∧ OldK s.heap s'.heap ∧ s'.os = s.os ∧ AllBare s'.gens
/-- H: what is told of the heap, the script alone or nothing -/
theorem core_G {H : Hp} (kx : K.In s.heap) (gl : s.heap.Ns mainGlobals mg) (bl : s.heap.Ns builtinsNs mb) (bb : ∀ y : Str, y ≠ "__name__" → mb y = bootBuiltins y) (lim : s.heap.NoLimit) (gens : s.gens = #[]) (obj : s.heap.get? a = some { cls := .type "list", data := .seq vs.toArray }) (room : Room k callerA)
    (F : ∀ base : Heap, K.In base → base.Ns mainGlobals mg → FnG P w K mg base k fa fd [x] sp) (bind : ∀ (s : Shared) (u : Value), BindsTo s fd ⟨[u], []⟩ [(x, u)]) (at_a : ∀ b u, H b = some u → b = a ∧ ∃ o ys, u = .frz o (.lst ys)) (ok : HOk P w H s.heap) (un : H a ≠ none → K.lookup a = none)
    (h : sp [.ref a] H (fun v _ => v = .bl true) fun _ _ _ => False) : codeAny (model P w) callerA (.call (.ref fa) ⟨[.ref a], []⟩) (Fine s) s := by
  have other : ∀ b, b ≠ a → H b = none := fun b n => by
    cases q : H b with
    | none => rfl
    | some u => exact absurd (at_a b u q).1 n
  have stays : ∀ {b : Addr} {m : Str → Option Value}, s.heap.Ns b m → (hidT s.heap H).Ns b m := fun {b m} ⟨o, es, ep, e, d, r⟩ => by
    refine ⟨o, es, ep, hidT_get e (other b fun z => ?_), d, r⟩
    subst z
    rw [obj] at e
    cases e
    cases (show Data.seq vs.toArray _ = Data.dict es ep from d)
  have kin : K.In (hidT s.heap H) := fun b o e => hidT_get (kx b o e) (by
    cases q : H b with
    | none => rfl
    | some u =>
      have z := (at_a b u q).1
      subst z
      rw [un (by rw [q]; simp)] at e
      cases e)
  obtain ⟨mc, l1, l2⟩ := lim
  have e0 : Env0 P w K mg (hidT s.heap H) callerA [] s H := ⟨rfl, ⟨kin, stays gl, ⟨mb, stays bl, bb⟩, ⟨mc, stays l1, l2⟩⟩, fun b o e => of_hidT e, Nat.le_of_eq (hidT_size _ _), trivial, (fun b hb => by cases (show b ∈ ([] : List Addr) from hb)), ok, .of_eq gens⟩
  refine codeAny_mono ((F _ kin (stays gl)).run callerA [] s H ⟨[.ref a], []⟩ [.ref a] [.ref a] _ _ rfl room e0 (bind s (.ref a)) (.cons rfl .nil) h) fun r s2 q => ?_
  match r, q with
  | .error e, q => exact q.elim
  | .ok .next, q => exact q.elim
  | .ok .brk, q => exact q.elim
  | .ok .cont, q => exact q.elim
  | .ok (.ret u), ⟨v, H2, os, bare, ub, ok2, rv, ev⟩ =>
    have ev' : v = .bl true := ev
    subst ev'
    obtain rfl : u = Value.bool true := rv
    refine ⟨rfl, OldK.of_keep fun b o e => ?_, os, bare⟩
    cases q : H b with
    | none => exact ub.keep b o e q (by simp [frs]) (by simp)
    | some t =>
      obtain ⟨_, ob, ys, rfl⟩ := at_a b t q
      have f1 := ok b _ q
      have f2 := ok2 b _ (ub.frzs b ob _ q)
      obtain ⟨g1, _⟩ := f1
      obtain ⟨g2, _⟩ := f2
      rw [e] at g1
      cases g1
      exact g2
theorem law_callG (kx : K.In s.heap) (gl : s.heap.Ns mainGlobals mg) (bl : s.heap.Ns builtinsNs mb) (bb : ∀ y : Str, y ≠ "__name__" → mb y = bootBuiltins y) (lim : s.heap.NoLimit) (gens : s.gens = #[]) (obj : s.heap.get? a = some { cls := .type "list", data := .seq vs.toArray }) (its : IntsAre vs ns) (len : ns.length ≤ sizeLine) (room : Room k callerA)
    (F : ∀ base : Heap, K.In base → base.Ns mainGlobals mg → FnG P w K mg base k fa fd [x] sp) (bind : ∀ (s : Shared) (u : Value), BindsTo s fd ⟨[u], []⟩ [(x, u)])
    (h : ∀ H : Hp, SqL K H a (ns.map V.int) → sp [.ref a] H (fun v _ => v = .bl true) fun _ _ _ => False) : codeAny (model P w) callerA (.call (.ref fa) ⟨[.ref a], []⟩) (Fine s) s := by
  cases q : K.lookup a with
  | some o =>
    have e := kx a o q
    rw [obj] at e
    cases e
    exact core_G (H := fun _ => none) kx gl bl bb lim gens obj room F bind (fun _ _ z => by cases z) (fun _ _ z => by cases (show (none : Option HO) = some _ from z)) (fun z => absurd rfl z) (h _ (.inr ⟨_, vs.toArray, _, q, rfl, rfl, rfl, by rw [List.size_toArray, its.length]; exact len, by simpa using vals_ints its⟩))
  | none =>
    refine core_G (H := fun b => if b = a then some (.frz { cls := .type "list", data := .seq vs.toArray } (.lst (ns.map V.int))) else none) kx gl bl bb lim gens obj room F bind (fun b u z => ?_) (fun b u z => ?_) (fun _ => q) (h _ (.inl (.inr ⟨_, if_pos rfl⟩)))
    · by_cases hb : b = a
      · exact ⟨hb, _, _, (Option.some.inj ((if_pos hb).symm.trans z)).symm⟩
      · cases (if_neg hb).symm.trans z
    · by_cases hb : b = a
      · cases (if_pos hb).symm.trans z
        subst hb
        exact ⟨obj, by rw [List.length_map]; exact len, vs, _, vals_ints its, obj⟩
      · cases (if_neg hb).symm.trans z
end
theorem walk_G {l : PySem.W.OpenLaw} {n k : Nat} {q : Program} {loose : List Str} {XP : (Str → Option Value) → Heap → Prop} {YP : World → Heap → Prop} {d : DefRec} {K : Params → PySem.W.Frag} {sp : World → Sp} {x : Str} (hn : l.most = some n) (hn2 : n ≤ sizeLine) (hdf : d.params.defaults = []) (room : Room k callerA)
    (inn : ∀ (w : World) (h : Heap), YP w h → (K w.params).In h)
    (F : ∀ (w : World) (mg : Str → Option Value) (fa : Addr) (h : Heap), (K w.params).In h → h.Ns mainGlobals mg → mg d.name = some (.ref fa) → ∃ fd : FuncData, (∀ (s : Shared) (u : Value), BindsTo s fd ⟨[u], []⟩ [(x, u)]) ∧ ∀ base : Heap, (K w.params).In base → base.Ns mainGlobals mg → FnG l.prog w (K w.params) mg base k fa fd [x] (sp w))
    (h : ∀ (w : World) (H : Hp) (a : Addr) (ns : List Int), ns.length ≤ n → SqL (K w.params) H a (ns.map V.int) → sp w [.ref a] H (fun v _ => v = .bl true) fun _ _ _ => False) : PySem.W.WalkO q loose XP YP l.row.toRowW d [] (fun f vs => PySem.call f vs) := by
  refine Att.attach_call hn hdf fun w s0 s1 mg mb fa o pm cd doc a vs ns G Y ho hd hcd hmg obj its len gens => ?_
  obtain ⟨fd, b, f⟩ := F w mg fa _ (inn w _ Y) G.T.g hmg
  exact law_callG (inn w _ Y) G.T.g G.T.b G.T.builtins G.T.nolimit gens obj its (Nat.le_trans len hn2) room f b fun H hS => h w H a ns len hS
end Lk

set_option Elab.async false
set_option linter.all false
set_option maxRecDepth 100000
set_option maxHeartbeats 4000000
namespace Lk
open PySem L2
theorem joinName {te : TE} {g : TG} {rest : TS} {D : Ends} {i : Nat} {v : V} {σ : St} {H : Hp} {f : St → Hp → Prop} (e : f = tSeq (tAsg te g) rest D) (R : V → Hp → Prop) (h : ∀ Q' : VK, (∀ v H', R v H' → Q' v H') → te (σ.set i (some v)) H Q') (k : ∀ u H', R u H' → g u (σ.set i (some v)) H' (rest D)) : gName i v σ H f := by
  subst e
  exact h _ k
theorem joinNx {te : TE} {g : TG} {rest : TS} {D : Ends} {σ : St} {H : Hp} {f : St → Hp → Prop} (e : f = tSeq (tAsg te g) rest D) (R : V → Hp → Prop) (h : ∀ Q' : VK, (∀ v H', R v H' → Q' v H') → te σ H Q') (k : ∀ u H', R u H' → g u σ H' (rest D)) : f σ H := by
  subst e
  exact h _ k
theorem joinIf {c : TT} {t rest : TS} {D : Ends} {σ : St} {H : Hp} {f : St → Hp → Prop} (e : f = tSeq (tIfS c t tNext) rest D) (R : Hp → Prop) (h : ∀ Q' : Bool → Hp → Prop, (∀ H', R H' → Q' false H') → c σ H Q') (k : ∀ H', R H' → rest D σ H') : f σ H := by
  subst e
  exact h _ fun H' r => iteF (k H' r)
theorem joinNameIf {c : TT} {t rest : TS} {D : Ends} {i : Nat} {v : V} {σ : St} {H : Hp} {f : St → Hp → Prop} (e : f = tSeq (tIfS c t tNext) rest D) (R : Hp → Prop) (h : ∀ Q' : Bool → Hp → Prop, (∀ H', R H' → Q' false H') → c (σ.set i (some v)) H Q') (k : ∀ H', R H' → rest D (σ.set i (some v)) H') : gName i v σ H f := by
  subst e
  exact h _ fun H' r => iteF (k H' r)
/-- a machine of rows in tuples is made -/
theorem make_rowsT {CM CE : Addr} {H1 : Hp} {q : Addr} {A : Nat} {vs : List (Addr × List Int)} {Q : Addr → Hp → Prop} {E : XK} (hA : 0 < A) (h5 : A ≤ 1000) (hq : H1 q = some (.tup (vs.map fun u => V.ref u.1))) (rows : ∀ u ∈ vs, H1 u.1 = some (.tup (u.2.map V.int))) (R : Rs A (rsOf vs)) (hz : vs.length ≤ 1000)
    (h : ∀ H' m us, Same H1 H' → H1 m = none → MachAt CM H' m (A : Int) us → rsOf us = rsOf vs → Q m H') :
    ∀ x0 dx, H1 x0 = none → H1 dx = none → dx ≠ x0 → spInit CM CE (.ref x0 :: ([.int (A : Int), .ref q] ++ [])) (upd (upd H1 dx (.own x0)) x0 (.ins CM dx [])) (fun v H2 => v = .non ∧ Q x0 H2) E := by
  refine make_any (dc := .int (A : Int)) (ds := .tuple ((rsOf vs).map rowP)) (.int _) (.tup hq (dv_rowsT rows)) ?_ (fun e he => ?_) ?_
  · show ((rsOf vs).map rowP).length ≤ 1000
    rw [List.length_map, rsOf_len]
    exact hz
  · obtain ⟨r, hr, rfl⟩ := List.mem_map.mp he
    show (r.map PyData.int).length ≤ 1000
    rw [List.length_map, (R.row r hr).1]
    exact h5
  · have e : makeRes (.int (A : Int)) (.tuple ((rsOf vs).map rowP)) = none := by
      rw [makeRes_int hA]
      exact stepsRes_rows (A := A) (g := rowP) rfl rfl (fun n r h => isE_tup h) R
    rw [e]
    refine fun H' m us S hm M eR => h H' m us S hm M ?_
    rw [eR]
    exact map_rowD rowD_tup _
theorem Game.upd {CM : Addr} {H : Hp} {d l a m b : Addr} {A : Nat} {ts us : List (Addr × List Int)} {xs : List V} {o : HO} (g : Game CM H d l a m A ts us) (hb : H b = some (.lst xs)) (nb : ¬ dl d l b) (na : a ≠ b) (nt : ∀ t ∈ ts, t.1 ≠ b) : Game CM (L2.upd H b o) d l a m A ts us :=
  ⟨g.D.upd nb, ⟨(upd_ne na).trans g.G.top, fun t ht => (upd_ne (nt t ht)).trans (g.G.row t ht)⟩, g.na, g.nt, g.R, g.A0, g.A5, g.hz, g.M.nl (NL.upd hb), g.e⟩
theorem sb_upd {d l b : Addr} {H H' : Hp} {o : HO} (x : SB d l H H') (h : H b = none) : SB d l H (upd H' b o) := (x.kp.mut h).sb
/-- rows in tuples, in a tuple -/
structure Wh (H : Hp) (q : Addr) (vs : List (Addr × List Int)) : Prop where
  top : H q = some (.tup (vs.map fun u => V.ref u.1))
  row : ∀ u ∈ vs, H u.1 = some (.tup (u.2.map V.int))
theorem Wh.same {H H' : Hp} {q : Addr} {vs : List (Addr × List Int)} (x : Wh H q vs) (S : Same H H') : Wh H' q vs := ⟨S _ _ x.top, fun u hu => S _ _ (x.row u hu)⟩
/-- the game, with a row, and the row as it is told -/
structure Play (CM : Addr) (H : Hp) (d l a m : Addr) (A : Nat) (ts us : List (Addr × List Int)) (rq b : Addr) (ns : List Int) (dy : PyData) : Prop where
  g : Game CM H d l a m A ts us
  r : H rq = some (.tup (ns.map V.int))
  nr : ¬ dl d l rq
  nb : ¬ dl d l b
  t : (H b = some (.lst (ns.map V.int)) ∧ dy = .list (ns.map PyData.int)) ∨ (H b = some (.tup (ns.map V.int)) ∧ dy = .tuple (ns.map PyData.int))
section
variable {CM : Addr} {H H' : Hp} {d l a m rq b : Addr} {A : Nat} {ts us : List (Addr × List Int)} {ns : List Int} {dy : PyData}
theorem Play.go (x : Play CM H d l a m A ts us rq b ns dy) (D' : DealAt H' d l) (S : SB d l H H') : Play CM H' d l a m A ts us rq b ns dy :=
  ⟨x.g.go D' S, S.kp.get x.nr x.r, x.nr, x.nb, x.t.elim (fun z => .inl ⟨S.kp.get x.nb z.1, z.2⟩) fun z => .inr ⟨S.kp.get x.nb z.1, z.2⟩⟩
theorem Play.same (x : Play CM H d l a m A ts us rq b ns dy) (S : Same H H') : Play CM H' d l a m A ts us rq b ns dy := x.go (x.g.same S).D (KP.same S).sb
theorem Play.new {p : Addr} {o : HO} (x : Play CM H d l a m A ts us rq b ns dy) (h : H p = none) : Play CM (upd H p o) d l a m A ts us rq b ns dy := x.same (Same.new h)
theorem Play.dv (x : Play CM H d l a m A ts us rq b ns dy) : Dv H (.ref b) dy := by
  rcases x.t with ⟨h, rfl⟩ | ⟨h, rfl⟩
  · exact .lst h (dvAll_ints _)
  · exact .tup h (dvAll_ints _)
theorem Play.items (x : Play CM H d l a m A ts us rq b ns dy) : isS dy = true ∧ itemsD dy = ns.map PyData.int := by
  rcases x.t with ⟨h, rfl⟩ | ⟨h, rfl⟩
  · exact ⟨rfl, rfl⟩
  · exact ⟨rfl, rfl⟩
end
theorem badV_ok {A : Int} : ∀ {ns : List Int} {i : Nat}, (∀ z ∈ ns, 0 ≤ z ∧ z < A) → badV A (ns.map PyData.int) i = none
  | [], _, _ => rfl
  | z :: ns, i, h => by
    have q := h z List.mem_cons_self
    have e : isB A (.int z) = true := by
      show (decide (0 ≤ z) && decide (z < A)) = true
      rw [decide_eq_true q.1, decide_eq_true q.2] <;> rfl
    rw [List.map_cons, badV_cons, if_pos e]
    exact badV_ok fun y hy => h y (List.mem_cons_of_mem _ hy)
theorem dp_ref {K : PySem.W.Frag} {H : Hp} {v : V} {ds : List PyData} (h : Dp K H v (.tuple ds)) : ∃ a, v = .ref a := by
  cases h with
  | tup _ _ => exact ⟨_, rfl⟩
theorem dp_int {K : PySem.W.Frag} {H : Hp} {v : V} {i : Int} (h : Dp K H v (.int i)) : v = .int i := by
  cases h
  rfl
theorem powG_in {n : Nat} : ∀ {k t : Nat} {a b : List Int}, InR n a → InR n b → InR n (powG k t a b)
  | 0, _, _, _, _, hb => hb
  | k + 1, t, a, b, ha, hb => by
    unfold powG
    by_cases h : t = 0
    · rw [if_pos h]
      exact hb
    · rw [if_neg h]
      refine powG_in (ha.comp ha) ?_
      by_cases h2 : t % 2 = 1
      · rw [if_pos h2]
        exact hb.comp ha
      · rw [if_neg h2]
        exact hb
mutual
theorem dp_same {K : PySem.W.Frag} {H H' : Hp} (S : Same H H') : ∀ {v : V} {d : PyData}, Dp K H v d → Dp K H' v d
  | _, _, .non => .non
  | _, _, .bl b => .bl b
  | _, _, .int i => .int i
  | _, _, .str x => .str x
  | _, _, .lst h t => .lst (Same.seq S h) (dpAll_same S t)
  | _, _, .tup h t => .tup (sameT S h) (dpAll_same S t)
theorem dpAll_same {K : PySem.W.Frag} {H H' : Hp} (S : Same H H') : ∀ {vs : List V} {ds : List PyData}, DpAll K H vs ds → DpAll K H' vs ds
  | _, _, .nil => .nil
  | _, _, .cons h t => .cons (dp_same S h) (dpAll_same S t)
end
/-- what v is, whatever is drawn -/
def KDv (d l : Addr) (H : Hp) (v : V) (e : PyData) : Prop := ∀ H', SB d l H H' → Dv H' v e
theorem KDv.dv {d l : Addr} {H : Hp} {v : V} {e : PyData} (x : KDv d l H v e) : Dv H v e := x H (SB.refl d l H)
theorem KDv.go {d l : Addr} {H H1 : Hp} {v : V} {e : PyData} (x : KDv d l H v e) (S : SB d l H H1) : KDv d l H1 v e := fun H' S' => x H' (S.trans S')
theorem rSlA_ok {K : PySem.W.Frag} {H : Hp} {rq : Addr} {xs : List V} {lo hi : Option Int} {Q : VK} (h : SqT K H rq xs) (k : ∀ H' p, Same H H' → SqT K H' p (cutV xs lo hi) → Q (.ref p) H') : rSlA K (.ref rq) lo hi H Q := by
  refine ⟨rq, xs, rfl, h, fun e => k H rq (Same.refl _) ?_, fun _ p hp => k _ p (Same.new hp) (SqT.of upd_same)⟩
  have e2 : cutV xs lo hi = xs := by
    unfold cutV
    rw [e.1, e.2, List.drop_zero, Nat.sub_zero, List.take_length]
  rw [e2]
  exact h
theorem badV_at {A : Int} {e : PyData} (he : isB A e = false) : ∀ {ns : List Int} {post : List PyData} {i : Nat}, (∀ z ∈ ns, 0 ≤ z ∧ z < A) → badV A (ns.map PyData.int ++ e :: post) i = some (i + ns.length)
  | [], _, _, _ => by
    show badV A (e :: _) _ = _
    rw [badV_cons, if_neg (by rw [he]; decide)]
    rfl
  | z :: ns, post, i, h => by
    have q := h z List.mem_cons_self
    have e1 : isB A (.int z) = true := by
      show (decide (0 ≤ z) && decide (z < A)) = true
      rw [decide_eq_true q.1, decide_eq_true q.2] <;> rfl
    show badV A (.int z :: (ns.map PyData.int ++ e :: post)) i = _
    rw [badV_cons, if_pos e1, badV_at he fun x hx => h x (List.mem_cons_of_mem _ hx), List.length_cons]
    congr 1
    omega
theorem isB_self {n : Int} : isB n (.int n) = false := by
  show (decide (0 ≤ n) && decide (n < n)) = false
  rw [decide_eq_false (show ¬ n < n by omega), Bool.and_false]
theorem noPart {σ : St} {H : Hp} {Q : Option Int → Hp → Prop} (h : Q none H) : tNoPart σ H Q := h
theorem eqv_pair (s : Str) (i : Int) : PyData.eqv (.tuple [.str s, .int i]) (.tuple [.str s, .int i]) = true := by
  show ((s == s) && ((i == i) && true)) = true
  simp
theorem shaped_row (i : Int) : SeqAt.shaped (.tuple [.str "row", .int i]) = true := by
  have h1 : PyData.canLay0 (.tuple [.str "row", .int i]) = true := by
    show (PyData.canLay0 (.str "row") && (true && true)) = true
    rw [show PyData.canLay0 (.str "row") = true by decide +kernel] <;> rfl
  have h2 : PyData.depth (.tuple [.str "row", .int i]) ≤ 64 := by
    show max 0 (max 0 0) + 1 ≤ 64
    decide
  unfold SeqAt.shaped
  rw [h1, Bool.true_and]
  exact decide_eq_true h2
theorem shaped_ref (i : Int) : SeqAt.shaped (.tuple [.str "refused", .int i]) = true := by
  have h1 : PyData.canLay0 (.tuple [.str "refused", .int i]) = true := by
    show (PyData.canLay0 (.str "refused") && (true && true)) = true
    rw [show PyData.canLay0 (.str "refused") = true by decide +kernel] <;> rfl
  have h2 : PyData.depth (.tuple [.str "refused", .int i]) ≤ 64 := by
    show max 0 (max 0 0) + 1 ≤ 64
    decide
  unfold SeqAt.shaped
  rw [h1, Bool.true_and]
  exact decide_eq_true h2
theorem rowRes_no {A : Int} {e : PyData} (h : isS e = false) : rowRes A e = some 0 := by
  unfold rowRes
  rw [if_pos h]
theorem rows_ok {A : Nat} {os : List (Addr × List Int)} (x : Rs A (rsOf os)) : RowsOk A os := by
  refine ⟨by have := x.pos; rw [rsOf_len] at this; exact this, fun t ht => ?_⟩
  have := x.row t.2 (List.mem_map.mpr ⟨t, ht, rfl⟩)
  rw [rsOf_len] at this
  exact this
end Lk

set_option Elab.async false
set_option linter.all false
set_option maxRecDepth 100000
set_option maxHeartbeats 4000000
/-! {e for x in xs if t}, e an int -/
namespace Lk
open PySem PySem.Spec PyProof.Rows L2
/-- what a turn asks of the set at D, and what it leaves -/
def scAdd (w : World) (D : Addr) (Nx : Hp → Prop) : VK := fun y G => ∃ (k : Int) (S : Int → Bool) (n : Nat), y = .int k ∧ G D = some (SetO w D S n) ∧ n + 1 < scanBound ∧ Nx (upd G D (SetO w D (fun j => S j || decide (j = k)) (if S k = true then n else n + 1)))
/-- one turn -/
def scTurn (w : World) (g : TG) (tt : TT) (te : TE) (vs : List Nat) (σ : L2.St) (D : Addr) (Nx : Hp → Prop) (x : V) (G : Hp) : Prop :=
  g x (wipe σ vs) G fun σ2 G2 => wipe σ2 vs = wipe σ vs ∧ tt σ2 G2 fun b G3 => if b = true then te σ2 G3 (scAdd w D Nx) else Nx G3
def tScI (w : World) (wi : TI) (g : TG) (tt : TT) (te : TE) (vs : List Nat) : TE := fun σ H Q => wi σ H fun J G => ∀ D, G D = none → ∃ W : Nat → Nat → Hp → Prop, (∃ m, W 0 m (upd G D (SetO w D (fun _ => false) 0))) ∧
  ∀ i m U, W i m U → (J.stop i U ∧ Q (.ref D) U) ∨ (J.go i U ∧ ∃ Nx : Hp → Prop, (∀ U', Nx U' → ∃ m', m' < m ∧ W (i + 1) m' U') ∧ ∀ x U', J.yld i U x U' → scTurn w g tt te vs σ D Nx x U')
section
variable {X : Cx} {elt tg iter : Expr} {ifs : List Expr} {scope : Scope} {own : List (PySem.Str × Nat)} {pos : Pos} {wi : TI} {g : TG} {tt : TT} {te : TE}
theorem pe_scI (hc : X.calm = true) (hN : X.N.Nodup) (hi : PI X tg iter wi) (ok : BlkOk X.N X.env.scope scope own)
    (hg : ∀ s H C cl fp, PG (X.blk s H scope (compEnvC scope cl C X.env) fp) tg g) (ht : ∀ s H C cl fp, PTs (X.blk s H scope (compEnvC scope cl C X.env) fp) ifs tt)
    (he : ∀ s H C cl fp, PE (X.blk s H scope (compEnvC scope cl C X.env) fp) elt te) (hs : ∀ x, foldedSetIterable iter X.env x = pure x := by intro _; rfl) :
    PE X (.SetComp elt [⟨tg, iter, ifs, 0⟩] scope pos) (tScI X.w wi g tt te (own.map (·.2))) := by
  refine ⟨fun pn s σ H Q I h => ?_⟩
  have cells : ∀ y ∈ scope.names, y.2 = .free → ∃ c, X.env.cells.lookup y.1 = some c := fun y hy e => (ok.free y hy e).elim (fun k => I.ok.has _ (.inl k)) fun k => I.ok.has _ (.inr k)
  rw [PpSet.eval_SetComp]
  refine wpAny_comprehension_free (use := none) rfl hs (closure_ok cells) ok.kind (fun y hy e => by rw [ok.uniq y hy, e]) (thn (hi.run pn s σ H _ I h) fun xv sa ha => thn ha fun iv sb hb => ?_)
  obtain ⟨it, fp, tn, J, Hb, e, Ib, T, stb, fb, q⟩ := hb
  subst e
  refine PpSet.newSet_ok (newEnv_comp ?_)
  generalize eD : sb.heap.objs.size = D
  obtain ⟨W, ⟨m0, w0⟩, turn⟩ := q D (Ib.hok.fresh (Nat.le_of_eq eD))
  obtain ⟨G, eG⟩ : ∃ G, G = upd Hb D (SetO X.w D (fun _ => false) 0) := ⟨_, rfl⟩
  rw [← eG] at w0
  have main : ∀ sc : Shared, sc = { sb with heap := sb.heap.push { cls := .type "set", dict := none, data := .set #[] 0 (.fresh 0 0 (!X.w.params.followText "set-order")) } } →
      codeAny (model X.prog X.w) X.A (.compStart (.SetComp elt [⟨tg, iter, ifs, 0⟩] scope pos) 0 (.ref it) (.ref D) (compEnvC scope (cellsFrom (sc.heap.objs.size + 1) scope.names (cloFrom X.env.cells scope.names [])) sc.heap.objs.size X.env))
        (compPost (model X.prog X.w) X.A X.xe none (EP X pn σ Q) (.ref D) sc.heap.objs.size) { sc with heap := pushCells (sc.heap.push { cls := .type "dict", data := .dict #[] }) scope.names } := fun sc esc => by
    have hsc : ∀ b o, sb.heap.get? b = some o → sc.heap.get? b = some o := fun b o e => by
      rw [esc]
      exact Heap.get?_push_of_some _ e
    have Ic : Inv X pn σ G sc := by
      rw [eG, esc]
      refine Ib.laid (t' := sb.toks) (fun b o e => Heap.get?_push_of_some _ e) (Nat.le_of_eq eD) ?_
      rw [← eD]
      exact setO_new (setR_fresh X.w)
    have small : ∀ b ∈ fp, b < D := fun b hb => by
      obtain ⟨o, e, _⟩ := T.obj _ _ stb b hb
      rw [← eD]
      exact Heap.lt_size e
    have zc : sc.heap.objs.size = D + 1 := by
      rw [esc, ← eD]
      exact Heap.size_push ..
    have fc : ∀ b ∈ fp, FpOk X pn G b ∧ b < sc.heap.objs.size := fun b hb => by
      have lt := small b hb
      refine ⟨⟨?_, (fb b hb).2⟩, by rw [zc]; exact Nat.lt_succ_of_lt lt⟩
      rw [eG, upd_ne (Nat.ne_of_lt lt)]
      exact (fb b hb).1
    have stc : tn 0 sc.heap := T.keep _ _ _ stb fun b _ o e => hsc b o e
    have Id := block_start Ic ok hN fc
    obtain ⟨cl, ecl⟩ : ∃ c, c = cellsFrom (sc.heap.objs.size + 1) scope.names (cloFrom X.env.cells scope.names []) := ⟨_, rfl⟩
    rw [← ecl] at Id ⊢
    have pg := hg sc G sc.heap.objs.size cl fp
    have pt := ht sc G sc.heap.objs.size cl fp
    have pe := he sc G sc.heap.objs.size cl fp
    obtain ⟨ce, ece⟩ : ∃ c, c = compEnvC scope cl sc.heap.objs.size X.env := ⟨_, rfl⟩
    rw [← ece] at Id pg pt pe ⊢
    have locs : ce.locals = sc.heap.objs.size := by rw [ece] <;> rfl
    have gfp : ∀ b ∈ fp, G b = none := fun b hb => (fc b hb).1.1
    obtain ⟨sd, esd⟩ : ∃ z : Shared, z = { sc with heap := pushCells (sc.heap.push { cls := .type "dict", data := .dict #[] }) scope.names } := ⟨_, rfl⟩
    rw [← esd] at Id ⊢
    have std : tn 0 sd.heap := T.keep _ _ _ stc fun b _ o e => by
      rw [esd]
      exact pushCells_keeps _ _ _ _ (Heap.get?_push_of_some _ e)
    have still : ∀ {τ : L2.St} {U : Hp} {z : Shared}, Inv (X.blk sc G scope ce fp) [] τ U z → (∀ b ∈ fp, U b = none) → ∀ b ∈ fp, FpOk (X.blk sc G scope ce fp) [] U b := fun {τ U z} J hn b hb =>
      ⟨hn b hb, (J.ok.exf b hb).1, J.ok.exfs b hb, .inl hb, fun x c e => (J.ok.exf b hb).2 x c e, fun p hp => absurd (show p ∈ ([] : List (Addr × Obj)) ++ [] from hp) (by simp)⟩
    refine PpSet.codeAny_compStart_set ?_ (T.self X.A 0 _ _ _ std ?_) <;>
    · refine PpSet.compLoopS_any (fun n z => ∃ i U, Inv (X.blk sc G scope ce fp) [] (wipe σ (own.map (·.2))) U z ∧ tn i z.heap ∧ (∀ b ∈ fp, U b = none) ∧ W i n U) ?_ m0 ⟨0, G, Id, std, gfp, w0⟩
      rintro n z ⟨i, U, Iz, stz, nz, wz⟩
      rcases turn i n U wz with ⟨stop, fin⟩ | ⟨go, Nx, hNx, step⟩
      · refine thnF (T.done (X.blk sc G scope ce fp) rfl rfl rfl hc i [] z _ U (fun _ _ => False) Iz (still Iz nz) stz stop) fun r y ⟨er, Iy⟩ => ?_
        subst er
        have Ix : Inv X pn σ U y := Ic.call' (ch := fp) Iy.os Iy.base Iy.hok Iy.bare fun b hb =>
          have z := (fc b hb).1
          ⟨z.2.2.2.1, z.2.1, z.2.2.2.2.1, z.2.2.2.2.2⟩
        have Uc : U sc.heap.objs.size = none := by
          rw [← locs]
          exact Iy.free
        obtain ⟨mm, ns, _⟩ := Iy.loc
        have ns' : y.heap.Ns sc.heap.objs.size mm := by
          rw [← locs]
          exact ns
        obtain ⟨f0, f1, f2, f3, f4, f5⟩ := Ic.fpOk (Nat.le_refl _) Uc
        exact ⟨mm, ns', fun h'' same => ⟨.ref D, U, Ix.turned (t' := y.toks) (fun b o hb e => (same.2 b hb).trans e) f0 f1 f3 f4 f5, rfl, fin⟩⟩
      · refine thnF (T.item (X.blk sc G scope ce fp) rfl rfl rfl hc i [] z _ U (fun _ _ => False) Iz (still Iz nz) stz go) fun r y ⟨u, er, hy⟩ => ?_
        subst er
        refine thnF hy fun _ s7 ⟨x, U7, I7, r7, y7, st7, n7⟩ => ?_
        refine thnF (pg.run _ s7 _ U7 x u _ (I7.pinned (still I7 n7) (T.obj _ _ st7)) r7 (step x U7 y7)) fun _ s8 ⟨σ8, U8, I8, w8, q8⟩ => ?_
        refine thnF (pt.run _ s8 σ8 U8 _ I8 q8) fun b s9 ⟨U9, I9, q9⟩ => ?_
        have back : ∀ {y : Shared} {U' : Hp}, Inv (X.blk sc G scope ce fp) ([] ++ pinsAt fp s7.heap) σ8 U' y → Nx U' → ∃ m, m < n ∧ ∃ i U', Inv (X.blk sc G scope ce fp) [] (wipe σ (own.map (·.2))) U' y ∧ tn i y.heap ∧ (∀ b ∈ fp, U' b = none) ∧ W i m U' := fun {y U'} I' nx => by
          obtain ⟨m', hm, w'⟩ := hNx U' nx
          have pin : ∀ b ∈ fp, ∀ o, s7.heap.get? b = some o → y.heap.get? b = some o ∧ U' b = none := fun b hb o e =>
            have q := I'.pin (b, o) (List.mem_append_right _ (List.mem_append_right _ (mem_pinsAt hb e)))
            ⟨q.1, q.2.1⟩
          refine ⟨m', hm, i + 1, U', (I'.unpinned (pins := [])).weak (by rw [← w8, wipe_length]) (fun j v e => ?_), T.keep _ _ _ st7 fun b hb o e => (pin b hb o e).1, fun b hb => ?_, w'⟩
          · rw [← w8] at e
            exact (wipe_some e).1
          · obtain ⟨o, e, _⟩ := T.obj _ _ st7 b hb
            exact (pin b hb o e).2
        cases b with
        | false =>
          rw [if_neg (by decide)] at q9 ⊢
          exact back I9 q9
        | true =>
          rw [if_pos rfl] at q9 ⊢
          refine thnF (pe.run _ s9 σ8 U9 _ I9 q9) fun v sv ⟨yv, Uv, Iv, rv, k, S, c, ey, hD, room, nx⟩ => ?_
          subst ey
          refine thnF (mt_sadd (X := X.blk sc G scope ce fp) _ sv σ8 Uv (.ref D) [.int k] (.ref D) [v] (fun _ U' => Nx U') Iv rfl (.cons rv .nil) ⟨D, k, S, c, rfl, rfl, hD, room, nx⟩) fun _ s11 ⟨_, U11, I11, _, nx11⟩ => ?_
          exact back I11 nx11
  exact main _ rfl
end
end Lk

set_option Elab.async false
set_option linter.all false
set_option maxRecDepth 100000
set_option maxHeartbeats 4000000
namespace Lk
open PySem L2
section
variable {w : World} {K : PySem.W.Frag} {a : Addr} {xs : List V} {g : TG} {tt : TT} {te : TE} {vs : List Nat} {σ : St} {G : Hp} {D : Addr} {Qd : Hp → Prop}
/-- a set comprehension over enumerate of a tuple -/
theorem scItE (Pv : Nat → Hp → Prop) (h0 : Pv 0 (upd G D (SetO w D (fun _ => false) 0))) (hl : ∀ i U, Pv i U → SqT K U a xs)
    (hs : ∀ i x U T, xs[i]? = some x → Pv i U → U T = none → scTurn w g tt te vs σ D (Pv (i + 1)) (.ref T) (upd U T (.tup [.int (i : Nat), x]))) (hd : ∀ U, Pv xs.length U → Qd U) :
    ∃ W : Nat → Nat → Hp → Prop, (∃ m, W 0 m (upd G D (SetO w D (fun _ => false) 0))) ∧ ∀ i m U, W i m U → ((ItE K a).stop i U ∧ Qd U) ∨ ((ItE K a).go i U ∧ ∃ Nx : Hp → Prop, (∀ U', Nx U' → ∃ m', m' < m ∧ W (i + 1) m' U') ∧ ∀ x U', (ItE K a).yld i U x U' → scTurn w g tt te vs σ D Nx x U') := by
  refine ⟨fun i m U => m = xs.length - i ∧ i ≤ xs.length ∧ Pv i U, ⟨xs.length, by simp, Nat.zero_le _, h0⟩, ?_⟩
  rintro i m U ⟨rfl, hi, p⟩
  have q := hl i U p
  by_cases h : i < xs.length
  · refine .inr ⟨⟨xs, xs[i], q, List.getElem?_eq_getElem h⟩, Pv (i + 1), fun U' n => ⟨xs.length - (i + 1), by omega, rfl, by omega, n⟩, ?_⟩
    rintro x U' ⟨T, y, rfl, hT, rfl, hy⟩
    exact hs i y U T (hy xs q) p hT
  · have e : i = xs.length := by omega
    subst e
    exact .inl ⟨⟨xs, q, Nat.le_refl _⟩, hd U p⟩
end
/-- an ascending list of ints is told by what it holds -/
theorem asc_ints : ∀ {xs ys : List Int}, xs.Pairwise (· < ·) → ys.Pairwise (· < ·) → (∀ k, k ∈ xs ↔ k ∈ ys) → xs = ys
  | [], [], _, _, _ => rfl
  | [], y :: ys, _, _, h => absurd ((h y).mpr List.mem_cons_self) (by simp)
  | x :: xs, [], _, _, h => absurd ((h x).mp List.mem_cons_self) (by simp)
  | x :: xs, y :: ys, h1, h2, h => by
    obtain ⟨a1, a2⟩ := List.pairwise_cons.mp h1
    obtain ⟨b1, b2⟩ := List.pairwise_cons.mp h2
    have e : x = y := by
      rcases List.mem_cons.mp ((h x).mp List.mem_cons_self) with z | z
      · exact z
      · rcases List.mem_cons.mp ((h y).mpr List.mem_cons_self) with u | u
        · exact u.symm
        · have := a1 y u
          have := b1 x z
          omega
    subst e
    rw [asc_ints a2 b2 fun k => ⟨fun hk => ?_, fun hk => ?_⟩]
    · rcases List.mem_cons.mp ((h k).mp (List.mem_cons_of_mem _ hk)) with z | z
      · have := a1 k hk
        omega
      · exact z
    · rcases List.mem_cons.mp ((h k).mpr (List.mem_cons_of_mem _ hk)) with z | z
      · have := b1 k hk
        omega
      · exact z
/-- what an error leaves -/
def Err (E : XK) (C : Addr) (H : Hp) (k : Int) : Prop := ∀ H' q, Same H H' → H' q = none → E (.ref C) (some q) (upd H' q (.xd [(("at" : Str), .int k)]))
theorem Err.go {E : XK} {C : Addr} {H H1 : Hp} {k : Int} (x : Err E C H k) (S : Same H H1) : Err E C H1 k := fun H' q S' hq => x H' q (S.trans S') hq
theorem fnOr {P : Program} {w : World} {K : PySem.W.Frag} {mg : Str → Option Value} {base : Heap} {CX : CXT} {k : Nat} {f : Addr} {fd : FuncData} {ps : List Str} {sp sq : Sp} (F : FnOk P w K mg base CX k f fd ps sp) (G : FnOk P w K mg base CX k f fd ps sq) : FnOk P w K mg base CX k f fd ps (fun vs H Q E => sp vs H Q E ∨ sq vs H Q E) :=
  ⟨fun vs H Q E h => h.elim (F.len vs H Q E) (G.len vs H Q E), fun A outer s H args us vs Q E hr he hb hv h => h.elim (F.run A outer s H args us vs Q E hr he hb hv) (G.run A outer s H args us vs Q E hr he hb hv)⟩
/-! ### the empty tuple that a def's parameter has by default: written by the top -/
def WTup (K : PySem.W.Frag) (p : Addr) : Prop := ∃ (o : Obj) (n : Nat), K.lookup p = some o ∧ o.cls = .type "tuple" ∧ o.data = .seq #[] n
theorem WTup.sq {K : PySem.W.Frag} {p : Addr} (x : WTup K p) (H : Hp) : SqT K H p [] := by
  obtain ⟨o, n, h1, h2, h3⟩ := x
  exact .inr ⟨o, #[], n, h1, h2, h3, by decide, .nil⟩
/-- any value, or that one -/
def DvK (K : PySem.W.Frag) (H : Hp) (v : V) (d : PyData) : Prop := Dv H v d ∨ ∃ p, v = .ref p ∧ WTup K p ∧ d = .tuple []
theorem DvK.same {K : PySem.W.Frag} {H H' : Hp} {v : V} {d : PyData} (x : DvK K H v d) (S : Same H H') : DvK K H' v d := x.elim (fun y => .inl (y.same S)) .inr
/-- a row as a tuple -/
def RowAt (K : PySem.W.Frag) (H : Hp) (v : V) (ns : List Int) : Prop := ∃ p, v = .ref p ∧ (H p = some (.tup (ns.map V.int)) ∨ (ns = [] ∧ WTup K p))
theorem RowAt.same {K : PySem.W.Frag} {H H' : Hp} {v : V} {ns : List Int} (x : RowAt K H v ns) (S : Same H H') : RowAt K H' v ns := by
  obtain ⟨p, rfl, h | h⟩ := x
  · exact ⟨p, rfl, .inl (S _ _ h)⟩
  · exact ⟨p, rfl, .inr h⟩
theorem RowAt.sq {K : PySem.W.Frag} {H : Hp} {p : Addr} {ns : List Int} (x : H p = some (.tup (ns.map V.int)) ∨ (ns = [] ∧ WTup K p)) : SqT K H p (ns.map V.int) := by
  rcases x with h | ⟨rfl, h⟩
  · exact SqT.of h
  · exact h.sq H
theorem catRow {K : PySem.W.Frag} {H : Hp} {v u : V} {ns ms : List Int} {Q : VK} (x : RowAt K H v ns) (y : RowAt K H u ms) (hz : ns.length + ms.length ≤ sizeLine) (k : ∀ H' z, Same H H' → RowAt K H' z (ns ++ ms) → Q z H') : rCatA K v u H Q := by
  obtain ⟨p, rfl, hp⟩ := x
  obtain ⟨q, rfl, hq⟩ := y
  refine ⟨p, q, _, _, rfl, rfl, RowAt.sq hp, RowAt.sq hq, by rw [List.length_map, List.length_map]; exact hz, fun e => ?_, fun _ e => ?_, fun _ _ t ht => ?_⟩
  · have e2 : ns = [] := List.map_eq_nil_iff.mp e
    exact k H _ (Same.refl _) ⟨q, rfl, by rw [e2]; exact hq⟩
  · have e2 : ms = [] := List.map_eq_nil_iff.mp e
    exact k H _ (Same.refl _) ⟨p, rfl, by rw [e2, List.append_nil]; exact hp⟩
  · exact k _ _ (Same.new ht) ⟨t, rfl, .inl (by rw [List.map_append]; exact upd_same)⟩
def spSeq0 (K : PySem.W.Frag) : Sp := fun vs H Q _ => ∃ p, vs = [.ref p] ∧ WTup K p ∧ ∀ H', Same H H' → Q (.bl true) H'
def spChecked0 (K : PySem.W.Frag) (CM : Addr) : Sp := fun vs H Q _ => ∃ (m p : Addr) (A : Int) (us : List (Addr × List Int)), vs = [.ref m, .ref p] ∧ MachAt CM H m A us ∧ WTup K p ∧ ∀ H', Same H H' → Q (.ref p) H'
/-- any value as a row, as a tuple -/
def spCheckedX (K : PySem.W.Frag) (CM CW : Addr) : Sp := fun vs H Q E => ∃ (m : Addr) (x : V) (d : PyData) (A : Int) (us : List (Addr × List Int)), vs = [.ref m, x] ∧ MachAt CM H m A us ∧ DvK K H x d ∧ (itemsD d).length ≤ 1000 ∧
  match rowRes A d with
  | some k => Err E CW H (k : Int)
  | none => ∀ H' v, Same H H' → RowAt K H' v (intsD d) → Q v H'
section
variable {P : Program} {w : World} {K : PySem.W.Frag} {mg : Str → Option Value} {base : Heap} {CM CW fW : Addr}
theorem ok_sequence0 {f : Addr} {fd : FuncData} (A0 : Df K mg "is_sequence" s_is_sequence f fd P_is_sequence) (T : Txt mg) : FnOk P w K mg base CX0 1 f fd P_is_sequence (spSeq0 K) := by
  refine A0.F.ok sc_is_sequence (fun vs H Q E h => ?_) (fun cdv A outer s H vs Q E hr h => ?_)
  · obtain ⟨p, rfl, _⟩ := h
    rfl
  · obtain ⟨p, rfl, W, k⟩ := h
    refine ⟨_, (pss_one (ps_ret (pe_callB call_isiT (by rfl) T.isinstance PyProof.Rows.boot_isinstance (pa_cons (pv 0) (pa_cons (pe_tup (pa_cons (pe_bltn (v := .ty "list") (by rfl) T.list (by decide +kernel) rfl) (pa_cons (pe_bltn (v := .ty "tuple") (by rfl) T.tuple (by decide +kernel) rfl) pa_nil))) pa_nil))))), ?_⟩
    obtain ⟨o, n, h1, h2, h3⟩ := W
    refine ⟨_, rfl, by show 2 ≤ sizeLine; decide, fun q hq => ⟨.ref p, q, _, _, [.type "list", .type "tuple"], true, rfl, upd_same, .cons (.ty _) (.cons (.ty _) .nil), .kTuple h1 h2, ?_, k _ (Same.new hq)⟩⟩
    refine kitAny_cons (b := false) (kit_ty (a := "tuple") (by decide +kernel)) (fun _ => ?_) (fun e => by cases e)
    exact kitAny_cons (b := true) (kit_ty (a := "tuple") (by decide +kernel)) (fun e => by cases e) (fun _ => rfl)
theorem ok_checked0 {f fs fc : Addr} {fd fds fdc : FuncData} (A0 : Df K mg "checked_row" s_checked_row f fd P_checked_row) (d_is_sequence : Df K mg "is_sequence" s_is_sequence fs fds P_is_sequence) (d_is_command : Df K mg "is_command" s_is_command fc fdc P_is_command) (G_is_command : FnOk P w K mg base CX0 4 fc fdc P_is_command (spCommand CM))
    (T : Txt mg) (TE : PySem.ErrX.ErrTxt K mg "InvalidRow" "InvalidRow.__init__" CW fW) : FnOk P w K mg base (L2.CX P w) 6 f fd P_checked_row (spChecked0 K CM) := by
  have G_is_sequence : FnOk P w K mg base CX0 1 fs fds P_is_sequence (spSeq0 K) := ok_sequence0 d_is_sequence T
  refine A0.F.okX sc_checked_row (fun vs H Q E h => ?_) (fun cdv Ar outer s H vs Q E hr h => ?_)
  · obtain ⟨m, p, A, us, rfl, _⟩ := h
    rfl
  · obtain ⟨m, p, A, us, rfl, M, W, k⟩ := h
    refine ⟨_, (pss_cons (ps_if (pt_not (pt_val (pe_call G_is_sequence (hr.mono (by decide)) rfl d_is_sequence.g d_is_sequence.F.kp d_is_sequence.b .nil pass0 (pa_cons (pv 1) pa_nil)))) (pss_one (ps_raiseLow rfl TE hr (takes_of rfl rfl rfl rfl) (pa_cons pe_int pa_nil) (by rfl))) pss_nil)
    (pss_cons (ps_for (passes_of rfl) rfl (pi_enumT (by rfl) T.enumerate (pa_cons (pv 1) pa_nil)) (pg_tup rfl (pgs_cons (pg_name (i := 2) sc_checked_row.nd rfl (Or.inl rfl)) (pgs_cons (pg_name (i := 3) sc_checked_row.nd rfl (Or.inl rfl)) pgs_nil)))
      (pss_one (ps_if (pt_not (pt_val (pe_call G_is_command (hr.mono (by decide)) rfl d_is_command.g d_is_command.F.kp d_is_command.b .nil pass0 (pa_cons (pv 0) (pa_cons (pv 3) pa_nil))))) (pss_one (ps_raiseLow rfl TE hr (takes_of rfl rfl rfl rfl) (pa_cons (pv 2) pa_nil) (by rfl))) pss_nil)))
    (pss_one (ps_ret (pe_tupleOf (by rfl) T.tuple (pv 1)))))), ?_⟩
    refine ⟨_, rfl, p, rfl, W, fun H1 S1 => ⟨true, rfl, iteF ?_⟩⟩
    refine ⟨_, rfl, p, [], rfl, W.sq _, for_enumT (K := K) (a := p) (xs := []) (fun i σ H3 => i = 0 ∧ (∃ v2 v3 : Option V, σ = [some (.ref m), some (.ref p), v2, v3]) ∧ Same H H3) ⟨rfl, ⟨none, none, rfl⟩, S1⟩ (fun i σ H3 _ => W.sq _) ?_ ?_⟩
    · rintro i y σ H3 t hi ⟨rfl, _⟩ _
      cases hi
    · rintro σ H3 ⟨_, ⟨v2, v3, rfl⟩, S3⟩
      exact ⟨_, rfl, .inr ⟨p, [], rfl, W.sq _, k _ S3⟩⟩
theorem ok_checkedX {f fs fc : Addr} {fd fds fdc : FuncData} (A0 : Df K mg "checked_row" s_checked_row f fd P_checked_row) (d_is_sequence : Df K mg "is_sequence" s_is_sequence fs fds P_is_sequence) (d_is_command : Df K mg "is_command" s_is_command fc fdc P_is_command) (G_is_command : FnOk P w K mg base CX0 4 fc fdc P_is_command (spCommand CM))
    (T : Txt mg) (TE : PySem.ErrX.ErrTxt K mg "InvalidRow" "InvalidRow.__init__" CW fW) : FnOk P w K mg base (L2.CX P w) 6 f fd P_checked_row (spCheckedX K CM CW) := by
  refine (fnOr (ok_checked A0 d_is_sequence d_is_command G_is_command T TE) (ok_checked0 A0 d_is_sequence d_is_command G_is_command T TE)).imp fun vs H Q E h => ?_
  obtain ⟨m, x, d, A, us, rfl, M, D, hz, k⟩ := h
  rcases D with D | ⟨p, rfl, W, rfl⟩
  · refine .inl ⟨m, x, d, A, us, rfl, M, D, hz, ?_⟩
    cases e : rowRes A d with
    | some j =>
      rw [e] at k
      exact k
    | none =>
      rw [e] at k
      exact fun H' t S ht => k H' _ S ⟨t, rfl, .inl ht⟩
  · exact .inr ⟨m, p, A, us, rfl, M, W, fun H' S => k H' _ S ⟨p, rfl, .inr ⟨rfl, W⟩⟩⟩
end
end Lk

set_option Elab.async false
set_option linter.all false
set_option maxRecDepth 100000
set_option maxHeartbeats 4000000
namespace Lk
open PySem L2
/-- the effect of any value, a row -/
def spEffX (K : PySem.W.Frag) (CM CW : Addr) : Sp := fun vs H Q E => ∃ (m : Addr) (y : V) (dy : PyData) (A : Int) (us : List (Addr × List Int)), vs = [.ref m, y] ∧ MachAt CM H m A us ∧ MOk A us ∧ DvK K H y dy ∧ (itemsD dy).length ≤ 1000 ∧
  match rowRes A dy with
  | some k => Err E CW H (k : Int)
  | none => ∀ H' t, Same H H' → H' t = some (.tup ((effs (rsOf us) (intsD dy)).map V.int)) → Q (.ref t) H'
section
variable {P : Program} {w : World} {K : PySem.W.Frag} {mg : Str → Option Value} {base : Heap} {CM CW : Addr}
theorem ok_effX {f fe fr fo fc fW : Addr} {fd fde fdr fdo fdc : FuncData} (A0 : Df K mg "effect" s_effect f fd P_effect) (d_effects : Df K mg "effects" s_effects fe fde P_effects) (d_resting : Df K mg "resting" s_resting fr fdr P_resting) (d_followed : Df K mg "followed" s_followed fo fdo P_followed) (d_checked_row : Df K mg "checked_row" s_checked_row fc fdc P_checked_row)
    (G_checked_row : FnOk P w K mg base (L2.CX P w) 6 fc fdc P_checked_row (spCheckedX K CM CW)) (T : Txt mg) (TC : TxC K CM) : FnOk P w K mg base (L2.CX P w) 7 f fd P_effect (spEffX K CM CW) := by
  have G_effects : FnOk P w K mg base CX0 1 fe fde P_effects (spEffects CM) := ok_effects d_effects T TC
  have G_resting : FnOk P w K mg base CX0 1 fr fdr P_resting (spResting CM) := ok_resting d_resting T TC
  have G_followed : FnOk P w K mg base CX0 1 fo fdo P_followed spFollowed := ok_followed d_followed T
  refine A0.F.okX sc_effect (fun vs H Q E h => ?_) (fun cdv Ar outer s H vs Q E hr h => ?_)
  · obtain ⟨m, y, dy, A, us, rfl, _⟩ := h
    rfl
  · obtain ⟨m, y, dy, A, us, rfl, M, O, Dy, hz, kG⟩ := h
    have tk : Takes (cxOf (L2.CX P w) P w K mg base N_effect "effect" (defScope s_effect) f cdv Ar outer s H E) (fun cls d _ H => E cls d H) := takes_of rfl rfl rfl rfl
    refine ⟨_, (pss_cons (ps_set (i := 2) sc_effect.nd rfl (Or.inl rfl) (pe_call G_effects (hr.mono (by decide)) rfl d_effects.g d_effects.F.kp d_effects.b .nil pass0 (pa_cons (pv 0) pa_nil)))
    (pss_cons (ps_set (i := 3) sc_effect.nd rfl (Or.inl rfl) (pe_call G_resting (hr.mono (by decide)) rfl d_resting.g d_resting.F.kp d_resting.b .nil pass0 (pa_cons (pv 0) pa_nil)))
    (pss_cons (ps_for (passes_of rfl) rfl (pi_tup (pe_callS G_checked_row (hr.mono (by decide)) rfl d_checked_row.g d_checked_row.F.kp d_checked_row.b (fun σ => passAt tk σ) (pa_cons (pv 0) (pa_cons (pv 1) pa_nil)))) (pg_name (i := 4) sc_effect.nd rfl (Or.inl rfl))
      (pss_one (ps_set (i := 3) sc_effect.nd rfl (Or.inl rfl) (pe_call G_followed (hr.mono (by decide)) rfl d_followed.g d_followed.F.kp d_followed.b .nil pass0 (pa_cons (pv 3) (pa_cons (pe_ix ix_tup (pv 2) (pv 4) (fun _ _ => rfl)) pa_nil))))))
    (pss_one (ps_ret (pv 3)))))), ?_⟩
    have hA := O.a0
    have hn1 := O.n1
    refine ⟨_, rfl, m, A, us, rfl, M, O, fun H1 te ts S1 hte hlt hrow hcol => ?_⟩
    refine ⟨_, rfl, m, A, us, rfl, M.same S1, hn1, fun tr htr => ?_⟩
    have S2 : Same H1 (upd H1 tr (HO.tup ((rng us.length).map V.int))) := Same.new htr
    have S02 := S1.trans S2
    refine ⟨_, rfl, _, rfl, m, y, dy, A, us, rfl, M.same S02, Dy.same S02, hz, ?_⟩
    cases hrr : rowRes A dy with
    | some k =>
      rw [hrr] at kG
      exact kG.go S02
    | none =>
      rw [hrr] at kG
      have hin := rowRes_in hrr
      have hinN : ∀ (l : List Int), (∀ z ∈ l, z ∈ intsD dy) → ∀ z ∈ l, 0 ≤ z ∧ z < ((A.toNat : Nat) : Int) := fun l hl z hz => by
        have := hin z (hl z hz)
        omega
      intro H3 vt S3 hvt
      obtain ⟨t, rfl, ht⟩ := hvt
      have hsq : ∀ {U : Hp}, Same H3 U → SqT K U t ((intsD dy).map V.int) := fun S => RowAt.sq (ht.elim (fun z => .inl (S _ _ z)) .inr)
      refine ⟨t, rfl, ⟨_, hsq (Same.refl _)⟩, for_tup (K := K) (a := t) (xs := (intsD dy).map V.int) (fun i σ H4 => ∃ (q : Addr) (v : Option V), σ = [some (.ref m), some y, some (.ref te), some (.ref q), v] ∧ Same H3 H4 ∧ H4 q = some (.tup ((effs (rsOf us) ((intsD dy).take i)).map V.int))) ⟨tr, none, rfl, Same.refl _, ?_⟩ (fun i σ H4 _ ⟨_, _, _, S4, _⟩ => hsq S4) ?_ ?_⟩
      · rw [List.take_zero, effs_nil, rsOf_len]
        exact S3 _ _ upd_same
      · rintro i v0 σ H4 hi ⟨q, v, rfl, S4, hq⟩
        obtain ⟨c, hci, rfl⟩ : ∃ c, (intsD dy)[i]? = some c ∧ V.int c = v0 := by
          rw [List.getElem?_map] at hi
          cases e : (intsD dy)[i]? with
          | none => rw [e] at hi; cases hi
          | some c => rw [e] at hi; exact ⟨c, rfl, Option.some.inj hi⟩
        have hcm := hin c (mem_of_get hci)
        have hlt2 : c.toNat < ts.length := by omega
        have hu : ts[c.toNat]? = some ts[c.toNat] := List.getElem?_eq_getElem hlt2
        have S24 := (S2.trans S3).trans S4
        have hE := effs_in O.rs (ns := (intsD dy).take i) (hinN _ fun z hz => List.mem_of_mem_take hz)
        rw [rsOf_len] at hE
        have hcl : (col (rsOf us) c.toNat).length = us.length := by unfold col; rw [List.length_map, rsOf_len]
        refine ⟨_, rfl, _, rfl, _, rfl, te, _, c, _, rfl, rfl, SqT.of (S24 _ _ hte), atI_int hcm.1 (by rw [List.getElem?_map, hu] <;> rfl), q, _, _, (ts[c.toNat]).2, rfl, hq, S24 _ _ (hrow _ (mem_of_get hu)), by rw [hE.len]; exact hn1, fun z hz => ?_, fun H5 q5 S5 h5 => ?_⟩
        · rw [hcol c.toNat _ hu, hcl]
          exact hE.mem z hz
        · refine ⟨q5, _, rfl, S4.trans S5, ?_⟩
          rw [h5, hcol c.toNat _ hu, effs_snoc O.rs (hinN _ fun z hz => List.mem_of_mem_take hz) hcm.1, take_next hci]
      · rintro σ H4 ⟨q, v, rfl, S4, hq⟩
        rw [List.length_map, List.take_length] at hq
        exact ⟨_, rfl, kG H4 q ((S02.trans S3).trans S4) hq⟩
end
/-! ### two states that one tuple brings together and the other one does not -/
abbrev s_pair_apart : Stmt := top 22
abbrev N_pair_apart : List Str := ["one", "other", "s", "label", "t"]
abbrev P_pair_apart : List Str := ["one", "other"]
theorem sc_pair_apart : FnScope N_pair_apart P_pair_apart (defScope s_pair_apart) := ⟨rfl, rfl, rfl, by decide +kernel, rfl, by decide +kernel, by decide +kernel⟩
/-- no two places are alike in f and not in g -/
def NoPair (f g : List Int) : Prop := ∀ (i j : Nat) (x y u v : Int), i < j → f[i]? = some x → f[j]? = some x → g[i]? = some u → g[j]? = some v → u = v
def spApart : Sp := fun vs H Q _ => ∃ (a b : Addr) (f g : List Int), vs = [.ref a, .ref b] ∧ H a = some (.tup (f.map V.int)) ∧ H b = some (.tup (g.map V.int)) ∧ f.length = g.length ∧ f.length ≤ 1000 ∧
  (NoPair f g → ∀ H', Same H H' → Q .non H') ∧ (¬ NoPair f g → ∀ H' p, Same H H' → H' p = none → ∀ xs, Q (.ref p) (upd H' p (.tup xs)))
section
variable {P : Program} {w : World} {K : PySem.W.Frag} {mg : Str → Option Value} {base : Heap}
theorem get_int {f : List Int} {i : Nat} {v : V} (h : (f.map V.int)[i]? = some v) : ∃ c, f[i]? = some c ∧ V.int c = v := by
  rw [List.getElem?_map] at h
  cases e : f[i]? with
  | none => rw [e] at h; cases h
  | some c => rw [e] at h; exact ⟨c, rfl, Option.some.inj h⟩
theorem ok_apart {f : Addr} {fd : FuncData} (A0 : Df K mg "pair_apart" s_pair_apart f fd P_pair_apart) (T : Txt mg) : FnOk P w K mg base CX0 1 f fd P_pair_apart spApart := by
  refine A0.F.ok sc_pair_apart (fun vs H Q E h => ?_) (fun cdv Ar outer s H vs Q E hr h => ?_)
  · obtain ⟨a, b, f, g, rfl, _⟩ := h
    rfl
  · obtain ⟨a, b, f, g, rfl, ha, hb, hfg, hl, kN, kS⟩ := h
    refine ⟨_, (pss_cons (ps_for PassesOwn.never rfl (pi_enumT (by rfl) T.enumerate (pa_cons (pv 0) pa_nil)) (pg_tup rfl (pgs_cons (pg_name (i := 2) sc_pair_apart.nd rfl (Or.inl rfl)) (pgs_cons (pg_name (i := 3) sc_pair_apart.nd rfl (Or.inl rfl)) pgs_nil)))
      (pss_one (ps_for PassesOwn.never rfl (pi_range2 rfl T.range (pa_cons (pe_op op_add (pv 2) pe_int) (pa_cons (pe_callB call_len_seq (by rfl) T.len PySem.boot_len (pa_cons (pv 0) pa_nil)) pa_nil))) (pg_name (i := 4) sc_pair_apart.nd rfl (Or.inl rfl))
        (pss_one (ps_if (PW.pt (pw_and (pt_cmpR op_eq (pe_ix ix_tup (pv 0) (pv 4) (fun _ _ => rfl)) (pv 3) (nomark _)) (pw_and1 (pt_cmpR op_ne (pe_ix ix_tup (pv 1) (pv 4) (fun _ _ => rfl)) (pe_ix ix_tup (pv 1) (pv 2) (fun _ _ => rfl)) (nomark _))))) (pss_one (ps_ret (pe_tup (pa_cons (pv 2) (pa_cons (pv 4) pa_nil))))) pss_nil)))))
    (pss_one (ps_ret pe_non))), ?_⟩
    have hL : (f.map V.int).length = f.length := List.length_map ..
    refine ⟨_, rfl, a, f.map V.int, rfl, SqT.of ha, for_enumT (K := K) (a := a) (xs := f.map V.int) (fun k σ H1 => (∃ v2 v3 v4 : Option V, σ = [some (.ref a), some (.ref b), v2, v3, v4]) ∧ Same H H1 ∧
      ∀ (i j : Nat) (x u v : Int), i < k → i < j → f[i]? = some x → f[j]? = some x → g[i]? = some u → g[j]? = some v → u = v) ⟨⟨none, none, none, rfl⟩, Same.refl _, fun i j x u v h => absurd h (Nat.not_lt_zero i)⟩ (fun k σ H1 x => SqT.of (x.2.1 _ _ ha)) ?_ ?_⟩
    · rintro k x σ H1 T1 hk ⟨⟨v2, v3, v4, rfl⟩, S1, no⟩ hT
      obtain ⟨c, hc, rfl⟩ := get_int hk
      have hkl : k < f.length := (List.getElem?_eq_some_iff.mp hc).1
      obtain ⟨gk, hgk⟩ : ∃ z, g[k]? = some z := ⟨_, List.getElem?_eq_getElem (by omega)⟩
      have S2 := S1.trans (Same.new (o := HO.tup [V.int ((k : Nat) : Int), V.int c]) hT)
      refine ⟨T1, _, rfl, SqT.of upd_same, rfl, _, _, rfl, _, _, rfl, rfl, ?_⟩
      refine ⟨_, rfl, _, _, rfl, rfl, _, rfl, a, _, rfl, .inr (SqT.of (S2 _ _ ha)), _, _, rfl, by omega, ?_⟩
      refine for_range (lo := (k : Int) + 1) (n := (((f.map V.int).length : Int) - ((k : Int) + 1)).toNat) (fun n σ H2 => (∃ v4 : Option V, σ = [some (.ref a), some (.ref b), some (.int (k : Int)), some (.int c), v4]) ∧ Same H H2 ∧
        ∀ (j : Nat) (v : Int), k < j → j < k + 1 + n → f[j]? = some c → g[j]? = some v → gk = v) ⟨⟨v4, rfl⟩, S2, fun j v h1 h2 => by omega⟩ ?_ ?_
      · rintro n σ H2 hn ⟨⟨v4, rfl⟩, S3, no2⟩
        have hj : k + 1 + n < f.length := by
          rw [hL] at hn
          omega
        obtain ⟨fj, hfj⟩ : ∃ z, f[k + 1 + n]? = some z := ⟨_, List.getElem?_eq_getElem hj⟩
        obtain ⟨gj, hgj⟩ : ∃ z, g[k + 1 + n]? = some z := ⟨_, List.getElem?_eq_getElem (by omega)⟩
        have ej : ((k : Int) + 1 + (n : Int)).toNat = k + 1 + n := by omega
        have af : atI (f.map V.int) ((k : Int) + 1 + (n : Int)) = some (V.int fj) := atI_int (by omega) (by rw [ej, List.getElem?_map, hfj] <;> rfl)
        have ag : atI (g.map V.int) ((k : Int) + 1 + (n : Int)) = some (V.int gj) := atI_int (by omega) (by rw [ej, List.getElem?_map, hgj] <;> rfl)
        have ag2 : atI (g.map V.int) (k : Int) = some (V.int gk) := atI_int (by omega) (by rw [Int.toNat_natCast, List.getElem?_map, hgk] <;> rfl)
        refine ⟨_, rfl, _, rfl, a, _, _, _, rfl, rfl, SqT.of (S3 _ _ ha), af, _, rfl, rfl, ?_⟩
        have go : ∀ (j : Nat) (v : Int), (fj = c → gj = gk) → k < j → j < k + 1 + (n + 1) → f[j]? = some c → g[j]? = some v → gk = v := fun j v hh h1 h2 h3 h4 => by
          by_cases e : j = k + 1 + n
          · rw [e, hfj] at h3
            rw [e, hgj] at h4
            have e1 := Option.some.inj h3
            have e2 := Option.some.inj h4
            have := hh e1
            omega
          · exact no2 j v h1 (by omega) h3 h4
        by_cases e1 : fj = c
        · refine ⟨true, congrArg V.bl (decide_eq_true (show V.int fj = V.int c by rw [e1])), iteT ?_⟩
          refine ⟨_, rfl, _, rfl, b, _, _, _, rfl, rfl, SqT.of (S3 _ _ hb), ag, _, rfl, _, rfl, b, _, _, _, rfl, rfl, SqT.of (S3 _ _ hb), ag2, rfl, ?_⟩
          by_cases e2 : gj = gk
          · refine ⟨false, congrArg V.bl (by rw [decide_eq_true (show V.int gj = V.int gk by rw [e2])] <;> rfl), iteF ⟨⟨_, rfl⟩, S3, fun j v => go j v fun _ => e2⟩⟩
          · refine ⟨true, congrArg V.bl (by rw [decide_eq_false (show ¬ V.int gj = V.int gk from fun q => e2 (by injection q))] <;> rfl), iteT ⟨_, rfl, _, rfl, by show 2 ≤ sizeLine; decide, fun p hp => kS (fun N => e2 ?_) H2 p S3 hp _⟩⟩
            subst e1
            exact (N k (k + 1 + n) fj fj gk gj (by omega) hc hfj hgk hgj).symm
        · exact ⟨false, congrArg V.bl (decide_eq_false (show ¬ V.int fj = V.int c from fun q => e1 (by injection q))), iteF ⟨⟨_, rfl⟩, S3, fun j v => go j v fun q => absurd q e1⟩⟩
      · rintro σ H2 ⟨⟨v4, rfl⟩, S3, no2⟩
        refine ⟨⟨_, _, _, rfl⟩, S3, fun i j x u v hi hij h1 h2 h3 h4 => ?_⟩
        by_cases e : i = k
        · subst e
          rw [hc] at h1
          rw [hgk] at h3
          have e1 := Option.some.inj h1
          have e3 := Option.some.inj h3
          subst e1
          have hjl : j < f.length := (List.getElem?_eq_some_iff.mp h2).1
          have := no2 j v hij (by rw [hL]; omega) h2 h4
          omega
        · exact no i j x u v (by omega) hij h1 h2 h3 h4
    · rintro σ H1 ⟨⟨v2, v3, v4, rfl⟩, S1, no⟩
      rw [hL] at no
      exact kN (fun i j x _ u v hij h1 h2 h3 h4 => no i j x u v (List.getElem?_eq_some_iff.mp h1).1 hij h1 h2 h3 h4) H1 S1
end
end Lk

set_option Elab.async false
set_option linter.all false
set_option maxRecDepth 100000
set_option maxHeartbeats 4000000
namespace Lk
open PySem L2
abbrev s_both_ends : Stmt := top 26
abbrev N_both_ends : List Str := ["machine", "row", "other", "behind"]
abbrev P_both_ends : List Str := ["machine", "row", "other", "behind"]
theorem sc_both_ends : FnScope N_both_ends P_both_ends (defScope s_both_ends) := ⟨rfl, rfl, rfl, by decide +kernel, rfl, by decide +kernel, by decide +kernel⟩
/-- which of three rows is refused first, and where -/
def r3 (A : Int) (dx dy dz : PyData) : Option Nat := match rowRes A dx with
  | some k => some k
  | none => match rowRes A dy with
    | some k => some k
    | none => rowRes A dz
theorem RowAt.dvk {K : PySem.W.Frag} {H : Hp} {v : V} {ns : List Int} (x : RowAt K H v ns) : DvK K H v (.tuple (ns.map PyData.int)) := by
  obtain ⟨p, rfl, h | ⟨rfl, h⟩⟩ := x
  · exact .inl (.tup h (dvAll_ints _))
  · exact .inr ⟨p, rfl, h, rfl⟩
def spBoth (K : PySem.W.Frag) (CM CW : Addr) : Sp := fun vs H Q E => ∃ (m : Addr) (x y z : V) (dx dy dz : PyData) (A : Int) (us : List (Addr × List Int)), vs = [.ref m, x, y, z] ∧ MachAt CM H m A us ∧ MOk A us ∧ Dv H x dx ∧ Dv H y dy ∧ DvK K H z dz ∧ (itemsD dx).length ≤ 300 ∧ (itemsD dy).length ≤ 300 ∧ (itemsD dz).length ≤ 300 ∧
  match r3 A dx dy dz with
  | some k => Err E CW H (k : Int)
  | none => ∀ H' t a b, Same H H' → H' t = some (.tup [.ref a, .ref b]) → H' a = some (.tup ((effs (rsOf us) (intsD dx ++ intsD dz)).map V.int)) → H' b = some (.tup ((effs (rsOf us) (intsD dy ++ intsD dz)).map V.int)) → Q (.ref t) H'
section
variable {P : Program} {w : World} {K : PySem.W.Frag} {mg : Str → Option Value} {base : Heap} {CM CW : Addr}
theorem ok_both {f fc fe : Addr} {fd fdc fde : FuncData} (A0 : Df K mg "_both_ends" s_both_ends f fd P_both_ends) (d_checked_row : Df K mg "checked_row" s_checked_row fc fdc P_checked_row) (d_effect : Df K mg "effect" s_effect fe fde P_effect)
    (G_checked_row : FnOk P w K mg base (L2.CX P w) 6 fc fdc P_checked_row (spCheckedX K CM CW)) (G_effect : FnOk P w K mg base (L2.CX P w) 7 fe fde P_effect (spEffX K CM CW)) : FnOk P w K mg base (L2.CX P w) 8 f fd P_both_ends (spBoth K CM CW) := by
  refine A0.F.okX sc_both_ends (fun vs H Q E h => ?_) (fun cdv Ar outer s H vs Q E hr h => ?_)
  · obtain ⟨m, x, y, z, dx, dy, dz, A, us, rfl, _⟩ := h
    rfl
  · obtain ⟨m, x, y, z, dx, dy, dz, A, us, rfl, M, O, Dx, Dy, Dz, zx, zy, zz, kR⟩ := h
    have tk : Takes (cxOf (L2.CX P w) P w K mg base N_both_ends "_both_ends" (defScope s_both_ends) f cdv Ar outer s H E) (fun cls d _ H => E cls d H) := takes_of rfl rfl rfl rfl
    refine ⟨_, (pss_cons (ps_par (i := 1) (j := 2) rfl sc_both_ends.nd rfl rfl (by decide) rfl rfl (pa_cons (pe_callS G_checked_row (hr.mono (by decide)) rfl d_checked_row.g d_checked_row.F.kp d_checked_row.b (fun σ => passAt tk σ) (pa_cons (pv 0) (pa_cons (pv 1) pa_nil))) (pa_cons (pe_callS G_checked_row (hr.mono (by decide)) rfl d_checked_row.g d_checked_row.F.kp d_checked_row.b (fun σ => passAt tk σ) (pa_cons (pv 0) (pa_cons (pv 2) pa_nil))) pa_nil)) rfl)
    (pss_cons (ps_set (i := 3) sc_both_ends.nd rfl (Or.inl rfl) (pe_callS G_checked_row (hr.mono (by decide)) rfl d_checked_row.g d_checked_row.F.kp d_checked_row.b (fun σ => passAt tk σ) (pa_cons (pv 0) (pa_cons (pv 3) pa_nil))))
    (pss_one (ps_ret (pe_tup (pa_cons (pe_callS G_effect hr rfl d_effect.g d_effect.F.kp d_effect.b (fun σ => passAt tk σ) (pa_cons (pv 0) (pa_cons (pe_op op_catA (pv 1) (pv 3)) pa_nil))) (pa_cons (pe_callS G_effect hr rfl d_effect.g d_effect.F.kp d_effect.b (fun σ => passAt tk σ) (pa_cons (pv 0) (pa_cons (pe_op op_catA (pv 2) (pv 3)) pa_nil))) pa_nil))))))), ?_⟩
    have l1 : (intsD dx).length ≤ 300 := by unfold intsD; rw [List.length_map]; exact zx
    have l2 : (intsD dy).length ≤ 300 := by unfold intsD; rw [List.length_map]; exact zy
    have l3 : (intsD dz).length ≤ 300 := by unfold intsD; rw [List.length_map]; exact zz
    refine ⟨_, rfl, _, rfl, m, x, dx, A, us, rfl, M, .inl Dx, by omega, ?_⟩
    cases e1 : rowRes A dx with
    | some k =>
      rw [show r3 A dx dy dz = some k by unfold r3; rw [e1]] at kR
      exact kR
    | none =>
      intro H1 v1 S1 R1
      refine ⟨_, rfl, _, rfl, m, y, dy, A, us, rfl, M.same S1, .inl (Dy.same S1), by omega, ?_⟩
      cases e2 : rowRes A dy with
      | some k =>
        rw [show r3 A dx dy dz = some k by unfold r3; rw [e1, e2]] at kR
        exact kR.go S1
      | none =>
        intro H2 v2 S2 R2
        have S12 := S1.trans S2
        refine ⟨_, _, rfl, _, rfl, _, rfl, m, z, dz, A, us, rfl, M.same S12, Dz.same S12, by omega, ?_⟩
        cases e3 : rowRes A dz with
        | some k =>
          rw [show r3 A dx dy dz = some k by unfold r3; rw [e1, e2, e3]] at kR
          exact kR.go S12
        | none =>
          rw [show r3 A dx dy dz = none by unfold r3; rw [e1, e2, e3]] at kR
          intro H3 v3 S3 R3
          have S13 := S12.trans S3
          have go : ∀ (ns : List Int), ns.length ≤ 600 → (∀ c ∈ ns, 0 ≤ c ∧ c < A) → rowRes A (.tuple (ns.map PyData.int)) = none ∧ intsD (.tuple (ns.map PyData.int)) = ns ∧ (itemsD (.tuple (ns.map PyData.int))).length ≤ 1000 := fun ns h h2 => ⟨badV_ok h2, intD_ints _, by show (ns.map PyData.int).length ≤ 1000; rw [List.length_map]; omega⟩
          have i1 := rowRes_in e1
          have i2 := rowRes_in e2
          have i3 := rowRes_in e3
          obtain ⟨a1, a2, a3⟩ := go (intsD dx ++ intsD dz) (by rw [List.length_append]; omega) fun c hc => (List.mem_append.mp hc).elim (i1 c) (i3 c)
          obtain ⟨b1, b2, b3⟩ := go (intsD dy ++ intsD dz) (by rw [List.length_append]; omega) fun c hc => (List.mem_append.mp hc).elim (i2 c) (i3 c)
          refine ⟨_, rfl, _, rfl, _, rfl, catRow (R1.same (S2.trans S3)) R3 (Nat.le_trans (show _ ≤ 600 by omega) (by decide)) fun H4 v4 S4 R4 => ?_⟩
          refine ⟨m, v4, _, A, us, rfl, M.same (S13.trans S4), O, R4.dvk, a3, ?_⟩
          rw [a1]
          intro H5 t5 S5 h5
          rw [a2] at h5
          have S35 := S4.trans S5
          refine ⟨_, rfl, _, rfl, _, rfl, catRow ((R2.same S3).same S35) (R3.same S35) (Nat.le_trans (show _ ≤ 600 by omega) (by decide)) fun H6 v6 S6 R6 => ?_⟩
          refine ⟨m, v6, _, A, us, rfl, M.same ((S13.trans S35).trans S6), O, R6.dvk, b3, ?_⟩
          rw [b1]
          intro H7 t7 S7 h7
          rw [b2] at h7
          refine ⟨by show 2 ≤ sizeLine; decide, fun t ht => kR _ t t5 t7 ((((S13.trans S35).trans S6).trans S7).trans (Same.new ht)) upd_same (nk (S7 _ _ (S6 _ _ h5)) ht) (nk h7 ht)⟩
end
end Lk

set_option Elab.async false
set_option linter.all false
set_option maxRecDepth 100000
set_option maxHeartbeats 4000000
namespace Lk
open PySem L2
abbrev s_mended_states : Stmt := top 24
abbrev N_mended_states : List Str := ["machine", "now", "row", "other", "since", "done", "wanted", "state", "end"]
abbrev P_mended_states : List Str := ["machine", "now", "row", "other", "since"]
theorem sc_mended_states : FnScope N_mended_states P_mended_states (defScope s_mended_states) := ⟨rfl, rfl, rfl, by decide +kernel, rfl, by decide +kernel, by decide +kernel⟩
abbrev s_can_be_mended : Stmt := top 25
abbrev N_can_be_mended : List Str := ["machine", "row", "other", "since", "done", "wanted"]
abbrev P_can_be_mended : List Str := ["machine", "row", "other", "since"]
theorem sc_can_be_mended : FnScope N_can_be_mended P_can_be_mended (defScope s_can_be_mended) := ⟨rfl, rfl, rfl, by decide +kernel, rfl, by decide +kernel, by decide +kernel⟩
/-- a def with keyword-only parameters, at f -/
structure DfD (K : PySem.W.Frag) (mg : Str → Option Value) (x : Str) (st : Stmt) (kws : List (Str × V)) (f : Addr) (fd : FuncData) : Prop where
  F : FunD K x x (defArgs st) (defBody st) (defScope st) [] kws f fd
  g : mg x = some (.ref f)
/-- a state that should stand: some state is led to now and, instead, there -/
def Should (f g : List Int) (now k : Int) : Prop := ∃ i : Nat, f[i]? = some now ∧ g[i]? = some k
def spMended (K : PySem.W.Frag) (CM CW CR : Addr) : Sp := fun vs H Q E => ∃ (m : Addr) (n x y z : V) (dn dx dy dz : PyData) (A : Int) (us : List (Addr × List Int)), vs = [.ref m, n, x, y, z] ∧ MachAt CM H m A us ∧ MOk A us ∧ us.length ≤ 60 ∧ Dv H n dn ∧ Dv H x dx ∧ Dv H y dy ∧ DvK K H z dz ∧ (itemsD dx).length ≤ 300 ∧ (itemsD dy).length ≤ 300 ∧ (itemsD dz).length ≤ 300 ∧
  (isB (us.length : Int) dn = false → Err E CR H 0) ∧ (isB (us.length : Int) dn = true → match r3 A dx dy dz with
  | some k => Err E CW H (k : Int)
  | none => ∀ (H' : Hp) (t : Addr) (ns : List Int), Same H H' → H' t = some (.tup (ns.map V.int)) → ns.Pairwise (· < ·) → (∀ k, k ∈ ns ↔ Should (effs (rsOf us) (intsD dx ++ intsD dz)) (effs (rsOf us) (intsD dy ++ intsD dz)) (intD dn) k) → Q (.ref t) H')
def spCan (K : PySem.W.Frag) (CM CW : Addr) : Sp := fun vs H Q E => ∃ (m : Addr) (x y z : V) (dx dy dz : PyData) (A : Int) (us : List (Addr × List Int)), vs = [.ref m, x, y, z] ∧ MachAt CM H m A us ∧ MOk A us ∧ Dv H x dx ∧ Dv H y dy ∧ DvK K H z dz ∧ (itemsD dx).length ≤ 300 ∧ (itemsD dy).length ≤ 300 ∧ (itemsD dz).length ≤ 300 ∧
  match r3 A dx dy dz with
  | some k => Err E CW H (k : Int)
  | none => ∀ H' b, Same H H' → (b = true ↔ NoPair (effs (rsOf us) (intsD dx ++ intsD dz)) (effs (rsOf us) (intsD dy ++ intsD dz))) → Q (.bl b) H'
section
variable {P : Program} {w : World} {K : PySem.W.Frag} {mg : Str → Option Value} {base : Heap} {CM CW CR fR : Addr} {kws : List (Str × V)}
theorem ok_can {f fb fp : Addr} {fd fdb fdp : FuncData} (A0 : DfD K mg "can_be_mended" s_can_be_mended kws f fd) (d_both_ends : Df K mg "_both_ends" s_both_ends fb fdb P_both_ends) (d_pair_apart : Df K mg "pair_apart" s_pair_apart fp fdp P_pair_apart)
    (G_both_ends : FnOk P w K mg base (L2.CX P w) 8 fb fdb P_both_ends (spBoth K CM CW)) (G_pair_apart : FnOk P w K mg base CX0 1 fp fdp P_pair_apart spApart) : FnOk P w K mg base (L2.CX P w) 9 f fd P_can_be_mended (spCan K CM CW) := by
  refine A0.F.ok sc_can_be_mended (fun vs H Q E h => ?_) (fun cdv Ar outer s H vs Q E hr h => ?_)
  · obtain ⟨m, x, y, z, dx, dy, dz, A, us, rfl, _⟩ := h
    rfl
  · obtain ⟨m, x, y, z, dx, dy, dz, A, us, rfl, M, O, Dx, Dy, Dz, zx, zy, zz, kR⟩ := h
    have tk : Takes (cxOf (L2.CX P w) P w K mg base N_can_be_mended "can_be_mended" (defScope s_can_be_mended) f cdv Ar outer s H E) (fun cls d _ H => E cls d H) := takes_of rfl rfl rfl rfl
    refine ⟨_, (pss_cons (ps_asg (pe_callS G_both_ends hr rfl d_both_ends.g d_both_ends.F.kp d_both_ends.b (fun σ => passAt tk σ) (pa_cons (pv 0) (pa_cons (pv 1) (pa_cons (pv 2) (pa_cons (pv 3) pa_nil))))) (pg_tup rfl (pgs_cons (pg_name (i := 4) sc_can_be_mended.nd rfl (Or.inl rfl)) (pgs_cons (pg_name (i := 5) sc_can_be_mended.nd rfl (Or.inl rfl)) pgs_nil))))
    (pss_one (ps_ret (pe_cmpR op_isN (pe_call G_pair_apart (hr.mono (by decide)) rfl d_pair_apart.g d_pair_apart.F.kp d_pair_apart.b .nil pass0 (pa_cons (pv 4) (pa_cons (pv 5) pa_nil))) pe_non (nomark _))))), ?_⟩
    refine ⟨_, rfl, _, rfl, _, rfl, _, rfl, m, x, y, z, dx, dy, dz, A, us, rfl, M, O, Dx, Dy, Dz, zx, zy, zz, ?_⟩
    cases e : r3 A dx dy dz with
    | some k =>
      rw [e] at kR
      exact kR
    | none =>
      rw [e] at kR
      intro H1 t a b S1 ht ha hb
      have le : ∀ ns, (effs (rsOf us) ns).length = us.length := fun ns => by
        unfold effs
        rw [List.length_map, List.length_range, rsOf_len]
      refine ⟨t, _, rfl, SqT.of ht, rfl, _, _, rfl, _, _, rfl, rfl, ?_⟩
      refine ⟨_, rfl, _, rfl, a, b, _, _, rfl, ha, hb, by rw [le, le], by rw [le]; exact O.n1, fun N H2 S2 => ⟨rfl, ?_⟩, fun N H2 p S2 hp xs => ⟨rfl, ?_⟩⟩
      · exact kR H2 _ (S1.trans S2) ⟨fun _ => N, fun _ => decide_eq_true rfl⟩
      · exact kR _ _ ((S1.trans S2).trans (Same.new hp)) ⟨fun e => absurd (of_decide_eq_true e) (fun q => by cases q), fun q => absurd q N⟩
theorem ok_mended {f fs fb : Addr} {fd fds fdb : FuncData} (A0 : DfD K mg "mended_states" s_mended_states kws f fd) (d_is_state : Df K mg "is_state" s_is_state fs fds P_is_state) (d_both_ends : Df K mg "_both_ends" s_both_ends fb fdb P_both_ends)
    (G_is_state : FnOk P w K mg base CX0 4 fs fds P_is_state (spState CM)) (G_both_ends : FnOk P w K mg base (L2.CX P w) 8 fb fdb P_both_ends (spBoth K CM CW)) (T : Txt mg) (zsorted : mg "sorted" = none) (TR : PySem.ErrX.ErrTxt K mg "Refused" "Refused.__init__" CR fR) : FnOk P w K mg base (L2.CX P w) 9 f fd P_mended_states (spMended K CM CW CR) := by
  refine A0.F.ok sc_mended_states (fun vs H Q E h => ?_) (fun cdv Ar outer s H vs Q E hr h => ?_)
  · obtain ⟨m, n, x, y, z, dn, dx, dy, dz, A, us, rfl, _⟩ := h
    rfl
  · obtain ⟨m, n, x, y, z, dn, dx, dy, dz, A, us, rfl, M, O, u60, Dn, Dx, Dy, Dz, zx, zy, zz, kB, kR⟩ := h
    have tk : Takes (cxOf (L2.CX P w) P w K mg base N_mended_states "mended_states" (defScope s_mended_states) f cdv Ar outer s H E) (fun cls d _ H => E cls d H) := takes_of rfl rfl rfl rfl
    refine ⟨_, (pss_cons (ps_if (pt_not (pt_val (pe_call G_is_state (hr.mono (by decide)) rfl d_is_state.g d_is_state.F.kp d_is_state.b .nil pass0 (pa_cons (pv 0) (pa_cons (pv 1) pa_nil))))) (pss_one (ps_raiseLow rfl TR hr tk (pa_cons pe_int pa_nil) (by rfl))) pss_nil)
    (pss_cons (ps_asg (pe_callS G_both_ends hr rfl d_both_ends.g d_both_ends.F.kp d_both_ends.b (fun σ => passAt tk σ) (pa_cons (pv 0) (pa_cons (pv 2) (pa_cons (pv 3) (pa_cons (pv 4) pa_nil))))) (pg_tup rfl (pgs_cons (pg_name (i := 5) sc_mended_states.nd rfl (Or.inl rfl)) (pgs_cons (pg_name (i := 6) sc_mended_states.nd rfl (Or.inr rfl)) pgs_nil))))
    (pss_one (ps_ret (pe_tupleOf (by rfl) T.tuple (pe_callB (cr_sortedSet rfl) (by rfl) zsorted (by decide +kernel) (pa_cons (pe_scI (own := [("state", 7), ("end", 8)]) (g := gTup K 2 (gCons (gName 7) (gCons (gName 8) gNil))) (tt := tTest (tOp rEq (tVar 8) (tVar 1))) (te := tOp (rIxT K) (tVar 6) (tVar 7)) rfl sc_mended_states.nd (pi_enumT (by rfl) T.enumerate (pa_cons (pv 5) pa_nil)) (blkOk_by (N := N_mended_states) (sc := defScope s_mended_states) (by decide +kernel)) (fun _ _ _ _ _ => (pg_tup rfl (pgs_cons (pg_name (i := 7) sc_mended_states.nd rfl (Or.inl rfl)) (pgs_cons (pg_name (i := 8) sc_mended_states.nd rfl (Or.inl rfl)) pgs_nil)))) (fun _ _ _ _ _ => (pts_one (pt_cmpR op_eq (pv 8) (pv 1) (nomark _)))) (fun _ _ _ _ _ => (pe_ix ix_tup (pv 6) (pv 7) (fun _ _ => rfl)))) pa_nil))))))), ?_⟩
    refine ⟨_, rfl, _, rfl, m, n, dn, A, us, rfl, M, Dn, fun H1 S1 => ⟨isB (us.length : Int) dn, rfl, ?_⟩⟩
    cases hb : isB (us.length : Int) dn with
    | false => exact iteT ⟨_, rfl, fun q hq => (kB hb) H1 q S1 hq⟩
    | true =>
      have kG := kR hb
      obtain ⟨no, rfl, rfl⟩ : ∃ i, dn = .int i ∧ n = .int i := by
        cases dn with
        | int i =>
          cases Dn
          exact ⟨i, rfl, rfl⟩
        | none => cases hb
        | bool _ => cases hb
        | str _ => cases hb
        | list _ => cases hb
        | tuple _ => cases hb
        | dict _ => cases hb
      refine iteF ⟨_, rfl, _, rfl, _, rfl, _, rfl, m, x, y, z, dx, dy, dz, A, us, rfl, M.same S1, O, Dx.same S1, Dy.same S1, Dz.same S1, zx, zy, zz, ?_⟩
      cases e : r3 A dx dy dz with
      | some k =>
        rw [e] at kG
        exact kG.go S1
      | none =>
        rw [e] at kG
        intro H2 t a b S2 ht ha hb2
        refine ⟨t, _, rfl, SqT.of ht, rfl, _, _, rfl, _, _, rfl, rfl, ?_⟩
        obtain ⟨fs, efs⟩ : ∃ fs, fs = effs (rsOf us) (intsD dx ++ intsD dz) := ⟨_, rfl⟩
        obtain ⟨gs, egs⟩ : ∃ gs, gs = effs (rsOf us) (intsD dy ++ intsD dz) := ⟨_, rfl⟩
        rw [← efs] at ha
        rw [← egs] at hb2
        have kG' : ∀ (H' : Hp) (t : Addr) (ns : List Int), Same H H' → H' t = some (.tup (ns.map V.int)) → ns.Pairwise (· < ·) → (∀ k, k ∈ ns ↔ Should fs gs no k) → Q (.ref t) H' := by
          rw [efs, egs]
          exact kG
        have lf : fs.length = us.length := by
          rw [efs]
          unfold effs
          rw [List.length_map, List.length_range, rsOf_len]
        have lg : gs.length = us.length := by
          rw [egs]
          unfold effs
          rw [List.length_map, List.length_range, rsOf_len]
        refine ⟨_, rfl, a, _, rfl, SqT.of ha, fun D hD => ?_⟩
        refine scItE (K := K) (xs := fs.map V.int) (fun k U => Same H2 U ∧ ∃ S c, U D = some (SetO w D S c) ∧ c ≤ k ∧ ∀ v, S v = true ↔ ∃ i, i < k ∧ fs[i]? = some no ∧ gs[i]? = some v) ⟨Same.new hD, _, 0, upd_same, Nat.le_refl _, fun v => ⟨fun q => (by cases q), fun ⟨i, hi, _⟩ => absurd hi (Nat.not_lt_zero i)⟩⟩ (fun k U x => SqT.of (x.1 _ _ ha)) (fun k x U Ta hk px hTa => ?_) (fun U px => ?_)
        · obtain ⟨c, hc, rfl⟩ := get_int hk
          obtain ⟨S3, S, n, hS, hn, hm⟩ := px
          have hkl : k < fs.length := (List.getElem?_eq_some_iff.mp hc).1
          obtain ⟨gk, hgk⟩ : ∃ z, gs[k]? = some z := ⟨_, List.getElem?_eq_getElem (by omega)⟩
          have S4 := S3.trans (Same.new (o := HO.tup [V.int ((k : Nat) : Int), V.int c]) hTa)
          have hS4 := nk (u := HO.tup [V.int ((k : Nat) : Int), V.int c]) hS hTa
          refine ⟨Ta, _, rfl, SqT.of upd_same, rfl, _, _, rfl, _, _, rfl, rfl, rfl, ?_⟩
          refine ⟨_, rfl, _, rfl, rfl, _, rfl, ?_⟩
          by_cases ec : c = no
          · rw [decide_eq_true (show V.int c = V.int no by rw [ec])]
            refine iteT ⟨_, rfl, _, rfl, b, _, _, _, rfl, rfl, SqT.of (S4 _ _ hb2), atI_int (by omega) (by rw [Int.toNat_natCast, List.getElem?_map, hgk] <;> rfl), gk, S, n, rfl, hS4, Nat.lt_of_le_of_lt (show n + 1 ≤ 100 by omega) (by decide), ?_⟩
            refine ⟨((KP.same (S := fun _ => False) S4).mut hD).toSame, _, _, upd_same, ?_, fun v => ?_⟩
            · split <;> omega
            · show (S v || decide (v = gk)) = true ↔ _
              rw [Bool.or_eq_true, hm, decide_eq_true_iff]
              constructor
              · rintro (⟨i, h1, h2, h3⟩ | rfl)
                · exact ⟨i, by omega, h2, h3⟩
                · exact ⟨k, by omega, by rw [hc, ec], hgk⟩
              · rintro ⟨i, h1, h2, h3⟩
                by_cases ei : i = k
                · rw [ei, hgk] at h3
                  exact .inr (Option.some.inj h3).symm
                · exact .inl ⟨i, by omega, h2, h3⟩
          · rw [decide_eq_false (show ¬ V.int c = V.int no from fun q => ec (by injection q))]
            refine iteF ⟨S4, S, n, hS4, by omega, fun v => (hm v).trans ⟨fun ⟨i, h1, h2⟩ => ⟨i, by omega, h2⟩, fun ⟨i, h1, h2, h3⟩ => ⟨i, ?_, h2, h3⟩⟩⟩
            by_cases ei : i = k
            · rw [ei, hc] at h2
              exact absurd (Option.some.inj h2) ec
            · omega
        · obtain ⟨S3, S, n, hS, hn, hm⟩ := px
          rw [List.length_map] at hn hm
          refine ⟨D, S, n, rfl, hS, by omega, fun ns p hpw hmem hlen hp => .inl ⟨p, _, rfl, SqL.of upd_same, fun t2 ht2 => kG' _ t2 ns (((S1.trans S2).trans S3).trans ((Same.new (o := HO.lst (ns.map V.int)) hp).trans (Same.new ht2))) upd_same hpw fun k => ?_⟩⟩
          rw [hmem k, hm k]
          exact ⟨fun ⟨i, _, h⟩ => ⟨i, h⟩, fun ⟨i, h⟩ => ⟨i, (List.getElem?_eq_some_iff.mp h.1).1, h⟩⟩
end
end Lk

set_option Elab.async false
set_option linter.all false
set_option maxRecDepth 100000
set_option maxHeartbeats 4000000
namespace Lk
open PySem L2
abbrev s_law_row : Stmt := top 35
abbrev N_law_row : List Str := ["deal", "commands", "length", "turn"]
abbrev P_law_row : List Str := ["deal", "commands", "length"]
theorem sc_law_row : FnScope N_law_row P_law_row (defScope s_law_row) := ⟨rfl, rfl, rfl, by decide +kernel, rfl, by decide +kernel, by decide +kernel⟩
section
variable {P : Program} {w : World} {K : PySem.W.Frag} {mg : Str → Option Value} {base : Heap}
theorem ok_row {f fa : Addr} {fd fda : FuncData} (A0 : Df K mg "_law_row" s_law_row f fd P_law_row) (d_law_any : Df K mg "_law_any" s_law_any fa fda P_law_any) (T : Txt mg) : FnOk P w K mg base CX0 2 f fd P_law_row spRow := by
  have G_law_any : FnOk P w K mg base CX0 1 fa fda P_law_any spAny := ok_any d_law_any T
  refine A0.F.ok sc_law_row (fun vs H Q E h => ?_) (fun cdv A outer s H vs Q E hr h => ?_)
  · obtain ⟨d, l, A, n, rfl, _⟩ := h
    rfl
  · obtain ⟨d, l, A, n, rfl, A0, A1, n0, n1, D, k⟩ := h
    refine ⟨_, (pss_one (ps_ret (pe_tupleOf (by rfl) T.tuple (pe_lc (own := [("turn", 3)]) (g := gName 3) (tt := tYes) rfl sc_law_row.nd (pi_range1 rfl T.range (pa_cons (pv 2) pa_nil)) (blkOk_by (N := N_law_row) (sc := defScope s_law_row) (by decide +kernel)) (fun _ _ _ _ _ => (pg_name (i := 3) sc_law_row.nd rfl (Or.inl rfl))) (fun _ _ _ _ _ => pts_nil) (fun _ _ _ _ _ => (pe_call G_law_any (hr.mono (by decide)) rfl d_law_any.g d_law_any.F.kp d_law_any.b .nil pass0 (pa_cons (pv 0) (pa_cons (pv 1) pa_nil)))))))), ?_⟩
    refine ⟨_, rfl, n, rfl, by omega, by omega, fun p hp => lcI (fun _ z => 0 ≤ z ∧ z < A) hp D (by omega) (fun i H2 hi x _ Q2 kQ => ?_) (fun ns H2 hl hz hD x k1 => ?_)⟩
    · exact ⟨_, rfl, _, rfl, d, l, A, rfl, A0, by omega, x, fun H3 z x3 k3 z0 z1 => kQ _ _ x3 k3 ⟨z0, z1⟩⟩
    · refine .inl ⟨p, _, rfl, SqL.of hD, fun q hq => ?_⟩
      exact k _ q ns (x.new hq) (k1.trans (SB.new hq)) (k1.kp.free (x.free hq) hq) upd_same (by omega) (all_of_get hz)
end
end Lk

set_option Elab.async false
set_option linter.all false
set_option maxRecDepth 100000
set_option maxHeartbeats 8000000
namespace Lk
open PySem L2
abbrev s_law_columns_of : Stmt := top 37
abbrev N_law_columns_of : List Str := ["deal", "which", "many", "turn", "falls", "turned", "to", "adds", "state", "add", "first"]
abbrev P_law_columns_of : List Str := ["deal", "which", "many"]
theorem sc_law_columns_of : FnScope N_law_columns_of P_law_columns_of (defScope s_law_columns_of) := ⟨rfl, rfl, rfl, by decide +kernel, rfl, by decide +kernel, by decide +kernel⟩
/-- columns of n states -/
structure Cols (n : Nat) (ts : List (Addr × List Int)) : Prop where
  ne : 0 < ts.length
  le : ts.length ≤ 3
  n0 : 0 < n
  n4 : n ≤ 4
  row : ∀ t ∈ ts, t.2.length = n ∧ ∀ z ∈ t.2, 0 ≤ z ∧ z < (n : Int)
/-- columns at v, new behind H -/
def ColsIn (H H' : Hp) (v : V) : Prop := ∃ (p : Addr) (ts : List (Addr × List Int)) (n : Nat), v = .ref p ∧ NewG H p ts ∧ GridAt H' p ts ∧ Cols n ts
def colsB (n : Nat) (rs : List (List Int)) : Bool := decide (0 < rs.length) && (decide (rs.length ≤ 3) && (decide (0 < n) && (decide (n ≤ 4) && rs.all fun r => decide (r.length = n) && r.all fun z => decide (0 ≤ z) && decide (z < (n : Int)))))
theorem mkCols {H H' : Hp} (p : Addr) (ts : List (Addr × List Int)) (n : Nat) (hp : H p = none) (hr : ∀ t ∈ ts, H t.1 = none) (gt : H' p = some (.lst (ts.map fun t => V.ref t.1))) (gr : ∀ t ∈ ts, H' t.1 = some (.lst (t.2.map V.int))) (c : colsB n (ts.map (·.2)) = true) : ColsIn H H' (.ref p) := by
  refine ⟨p, ts, n, rfl, ⟨hp, hr⟩, ⟨gt, gr⟩, ?_⟩
  unfold colsB at c
  rw [Bool.and_eq_true, Bool.and_eq_true, Bool.and_eq_true, Bool.and_eq_true, List.length_map] at c
  obtain ⟨c1, c2, c3, c4, c5⟩ := c
  refine ⟨of_decide_eq_true c1, of_decide_eq_true c2, of_decide_eq_true c3, of_decide_eq_true c4, fun t ht => ?_⟩
  have q := List.all_eq_true.mp c5 t.2 (List.mem_map.mpr ⟨t, ht, rfl⟩)
  rw [Bool.and_eq_true] at q
  refine ⟨of_decide_eq_true q.1, fun z hz => ?_⟩
  have u := List.all_eq_true.mp q.2 z hz
  rw [Bool.and_eq_true] at u
  exact ⟨of_decide_eq_true u.1, of_decide_eq_true u.2⟩
theorem pick4' {a b c d v : V} {k : Nat} {P : V → Prop} (q : [a, b, c, d][k]? = some v) (ha : P a) (hb : P b) (hc : P c) (hd : P d) : P v := by
  match k, q with
  | 0, q => exact (Option.some.inj q) ▸ ha
  | 1, q => exact (Option.some.inj q) ▸ hb
  | 2, q => exact (Option.some.inj q) ▸ hc
  | 3, q => exact (Option.some.inj q) ▸ hd
  | n + 4, q => simp at q
def spColsOf : Sp := fun vs H Q _ => ∃ (d l : Addr) (which : Int) (n : Nat), vs = [.ref d, .int which, .int (n : Int)] ∧ 0 < n ∧ n ≤ 4 ∧ DealAt H d l ∧ ∀ (H' : Hp) (v : V), DealAt H' d l → SB d l H H' → ColsIn H H' v → Q v H'
section
variable {P : Program} {w : World} {K : PySem.W.Frag} {mg : Str → Option Value} {base : Heap}
theorem ok_cols_of {f fa fo fm : Addr} {fd fda fdo fdm : FuncData} (A0 : Df K mg "_law_columns_of" s_law_columns_of f fd P_law_columns_of) (d_law_any : Df K mg "_law_any" s_law_any fa fda P_law_any) (d_law_of : Df K mg "_law_of" s_law_of fo fdo P_law_of) (d_law_mixed : Df K mg "_law_mixed" s_law_mixed fm fdm P_law_mixed) (T : Txt mg) :
    FnOk P w K mg base CX0 3 f fd P_law_columns_of spColsOf := by
  have G_law_any : FnOk P w K mg base CX0 1 fa fda P_law_any spAny := ok_any d_law_any T
  have G_law_of : FnOk P w K mg base CX0 2 fo fdo P_law_of spOf := ok_of d_law_of d_law_any T
  have G_law_mixed : FnOk P w K mg base CX0 2 fm fdm P_law_mixed (spMixed K) := ok_mixed d_law_mixed d_law_any T
  refine A0.F.ok sc_law_columns_of (fun vs H Q E h => ?_) (fun cdv Ar outer s H vs Q E hr h => ?_)
  · obtain ⟨d, l, which, n, rfl, _⟩ := h
    rfl
  · obtain ⟨d, l, which, n, rfl, n0, n4, D, k⟩ := h
    refine ⟨_, (pss_cons (ps_if (pt_cmpR op_eq (pv 1) pe_int (nomark _)) (pss_one (ps_ret (pe_lc (own := [("turn", 3)]) (g := gName 3) (tt := tYes) rfl sc_law_columns_of.nd (pi_range1 rfl T.range (pa_cons (pe_op op_add pe_int (pe_call G_law_any (hr.mono (by decide)) rfl d_law_any.g d_law_any.F.kp d_law_any.b .nil pass0 (pa_cons (pv 0) (pa_cons pe_int pa_nil)))) pa_nil)) (blkOk_by (N := N_law_columns_of) (sc := defScope s_law_columns_of) (by decide +kernel)) (fun _ _ _ _ _ => (pg_name (i := 3) sc_law_columns_of.nd rfl (Or.inl rfl))) (fun _ _ _ _ _ => pts_nil) (fun _ _ _ _ _ => (pe_call G_law_mixed (hr.mono (by decide)) rfl d_law_mixed.g d_law_mixed.F.kp d_law_mixed.b .nil pass0 (pa_cons (pv 0) (pa_cons (pe_listRg rfl (by rfl) T.list (prg_1 (by rfl) T.range (pv 2))) pa_nil))))))) pss_nil)
    (pss_cons (ps_if (pt_cmpR op_eq (pv 1) pe_int (nomark _)) (pss_cons (ps_set (i := 4) sc_law_columns_of.nd rfl (Or.inl rfl) (pe_op op_cat (pe_lst (pa_cons pe_int pa_nil)) (pe_listRg rfl (by rfl) T.list (prg_1 (by rfl) T.range (pv 2)))))
      (pss_cons (ps_set (i := 5) sc_law_columns_of.nd rfl (Or.inl rfl) (pe_ifExp (pt_cmpR op_lt (pv 2) pe_int (nomark _)) (pe_slice sl_list (pv 4) po_none (po_some (pv 2))) (pe_lc (own := [("to", 6)]) (g := gName 6) (tt := tYes) (te := tIf (tTest (tOp (rI0 fun i j => .bl (decide (i < j))) (tVar 6) (tC (.int 2)))) (tOp (rIxL K) (tLst (tCons (tC (.int 1)) (tCons (tC (.int 0)) tNil))) (tVar 6)) (tVar 6)) rfl sc_law_columns_of.nd (pi_list (pe_slice sl_list (pv 4) po_none (po_some (pv 2)))) (blkOk_by (N := N_law_columns_of) (sc := defScope s_law_columns_of) (by decide +kernel)) (fun _ _ _ _ _ => (pg_name (i := 6) sc_law_columns_of.nd rfl (Or.inl rfl))) (fun _ _ _ _ _ => pts_nil) (fun _ _ _ _ _ => (pe_ifExp (pt_cmpR op_lt (pv 6) pe_int (nomark _)) (pe_ix ix_list (pe_lst (pa_cons pe_int (pa_cons pe_int pa_nil))) (pv 6) (fun _ _ => rfl)) (pv 6))))))
      (pss_one (ps_ret (pe_call G_law_of (hr.mono (by decide)) rfl d_law_of.g d_law_of.F.kp d_law_of.b .nil pass0 (pa_cons (pv 0) (pa_cons (pe_lst (pa_cons (pe_lst (pa_cons (pe_slice sl_list (pv 4) po_none (po_some (pv 2))) (pa_cons (pv 5) pa_nil))) (pa_cons (pe_lst (pa_cons (pe_lst (pa_cons pe_int (pa_cons pe_int (pa_cons pe_int (pa_cons pe_int pa_nil))))) (pa_cons (pe_lst (pa_cons pe_int (pa_cons pe_int (pa_cons pe_int (pa_cons pe_int pa_nil))))) pa_nil))) (pa_cons (pe_lst (pa_cons (pe_op op_rep (pe_lst (pa_cons pe_int pa_nil)) (pv 2)) (pa_cons (pe_op op_rep (pe_lst (pa_cons (pe_op op_sub (pv 2) pe_int) pa_nil)) (pv 2)) pa_nil))) pa_nil)))) pa_nil))))))) pss_nil)
    (pss_cons (ps_if (pt_cmpR op_eq (pv 1) pe_int (nomark _)) (pss_cons (ps_setLc (i := 7) (own := [("turn", 3)]) (g := gName 3) (tt := tYes) rfl sc_law_columns_of.nd rfl rfl (sw_true rfl rfl rfl (by decide +kernel)) (pi_range1 rfl T.range (pa_cons (pe_op op_add pe_int (pe_call G_law_any (hr.mono (by decide)) rfl d_law_any.g d_law_any.F.kp d_law_any.b .nil pass0 (pa_cons (pv 0) (pa_cons pe_int pa_nil)))) pa_nil)) (blkOk_by (N := N_law_columns_of) (sc := defScope s_law_columns_of) (by decide +kernel)) (fun _ _ _ _ _ => (pg_name (i := 3) sc_law_columns_of.nd rfl (Or.inl rfl))) (fun _ _ _ _ _ => pts_nil) (fun _ _ _ _ _ => (pe_call G_law_any (hr.mono (by decide)) rfl d_law_any.g d_law_any.F.kp d_law_any.b .nil pass0 (pa_cons (pv 0) (pa_cons pe_int pa_nil)))))
      (pss_cons (ps_if (pt_cmpR op_eq (pe_call G_law_any (hr.mono (by decide)) rfl d_law_any.g d_law_any.F.kp d_law_any.b .nil pass0 (pa_cons (pv 0) (pa_cons pe_int pa_nil))) pe_int (nomark _)) (pss_one (ps_ret (pe_lc (own := [("add", 9)]) (g := gName 9) (tt := tYes) rfl sc_law_columns_of.nd (pi_list (pv 7)) (blkOk_by (N := N_law_columns_of) (sc := defScope s_law_columns_of) (by decide +kernel)) (fun _ _ _ _ _ => (pg_name (i := 9) sc_law_columns_of.nd rfl (Or.inr rfl))) (fun _ _ _ _ _ => pts_nil) (fun _ _ _ _ _ => (pe_lc (own := [("state", 8)]) (g := gName 8) (tt := tYes) rfl sc_law_columns_of.nd (pi_range1 rfl T.range (pa_cons (pv 2) pa_nil)) (blkOk_by (N := N_law_columns_of) (sc := { kind := .function, names := [(".0", .local), ("add", .cell), ("range", .globalImplicit), ("many", .cell)], isGenerator := false, isCoroutine := false }) (by decide +kernel)) (fun _ _ _ _ _ => (pg_name (i := 8) sc_law_columns_of.nd rfl (Or.inl rfl))) (fun _ _ _ _ _ => pts_nil) (fun _ _ _ _ _ => (pe_callB (call_min2 rfl) (by rfl) T.min (by decide +kernel) (pa_cons (pe_op op_sub (pv 2) pe_int) (pa_cons (pe_op op_add (pv 8) (pv 9)) pa_nil))))))))) pss_nil)
      (pss_one (ps_ret (pe_lc (own := [("add", 9)]) (g := gName 9) (tt := tYes) rfl sc_law_columns_of.nd (pi_list (pv 7)) (blkOk_by (N := N_law_columns_of) (sc := defScope s_law_columns_of) (by decide +kernel)) (fun _ _ _ _ _ => (pg_name (i := 9) sc_law_columns_of.nd rfl (Or.inr rfl))) (fun _ _ _ _ _ => pts_nil) (fun _ _ _ _ _ => (pe_lc (own := [("state", 8)]) (g := gName 8) (tt := tYes) rfl sc_law_columns_of.nd (pi_range1 rfl T.range (pa_cons (pv 2) pa_nil)) (blkOk_by (N := N_law_columns_of) (sc := { kind := .function, names := [(".0", .local), ("add", .cell), ("range", .globalImplicit), ("many", .cell)], isGenerator := false, isCoroutine := false }) (by decide +kernel)) (fun _ _ _ _ _ => (pg_name (i := 8) sc_law_columns_of.nd rfl (Or.inl rfl))) (fun _ _ _ _ _ => pts_nil) (fun _ _ _ _ _ => (pe_callB (call_max2 rfl) (by rfl) T.max (by decide +kernel) (pa_cons (pv 8) (pa_cons (pe_callB (call_min2 rfl) (by rfl) T.min (by decide +kernel) (pa_cons (pv 9) (pa_cons (pe_op op_sub (pv 2) pe_int) pa_nil))) pa_nil))))))))))) pss_nil)
    (pss_cons (ps_if (pt_cmpR op_eq (pv 1) pe_int (nomark _)) (pss_cons (ps_set (i := 10) sc_law_columns_of.nd rfl (Or.inl rfl) (pe_lst (pa_cons (pe_lst (pa_cons (pe_lst (pa_cons pe_int (pa_cons pe_int (pa_cons pe_int pa_nil)))) (pa_cons (pe_lst (pa_cons pe_int (pa_cons pe_int (pa_cons pe_int pa_nil)))) pa_nil))) (pa_cons (pe_lst (pa_cons (pe_lst (pa_cons pe_int (pa_cons pe_int (pa_cons pe_int (pa_cons pe_int pa_nil))))) (pa_cons (pe_lst (pa_cons pe_int (pa_cons pe_int (pa_cons pe_int (pa_cons pe_int pa_nil))))) pa_nil))) (pa_cons (pe_lst (pa_cons (pe_lst (pa_cons pe_int (pa_cons pe_int (pa_cons pe_int pa_nil)))) (pa_cons (pe_lst (pa_cons pe_int (pa_cons pe_int (pa_cons pe_int pa_nil)))) (pa_cons (pe_lst (pa_cons pe_int (pa_cons pe_int (pa_cons pe_int pa_nil)))) pa_nil)))) pa_nil)))))
      (pss_one (ps_ret (pe_call G_law_of (hr.mono (by decide)) rfl d_law_of.g d_law_of.F.kp d_law_of.b .nil pass0 (pa_cons (pv 0) (pa_cons (pe_op op_cat (pv 10) (pe_lst (pa_cons (pe_lst (pa_cons (pe_lst (pa_cons pe_int (pa_cons pe_int (pa_cons pe_int (pa_cons pe_int pa_nil))))) (pa_cons (pe_lst (pa_cons pe_int (pa_cons pe_int (pa_cons pe_int (pa_cons pe_int pa_nil))))) (pa_cons (pe_lst (pa_cons pe_int (pa_cons pe_int (pa_cons pe_int (pa_cons pe_int pa_nil))))) pa_nil)))) pa_nil))) pa_nil)))))) pss_nil)
    (pss_cons (ps_if (pt_cmpR op_eq (pv 1) pe_int (nomark _)) (pss_one (ps_ret (pe_call G_law_of (hr.mono (by decide)) rfl d_law_of.g d_law_of.F.kp d_law_of.b .nil pass0 (pa_cons (pv 0) (pa_cons (pe_lst (pa_cons (pe_lst (pa_cons (pe_lst (pa_cons pe_int (pa_cons pe_int (pa_cons pe_int (pa_cons pe_int pa_nil))))) (pa_cons (pe_lst (pa_cons pe_int (pa_cons pe_int (pa_cons pe_int (pa_cons pe_int pa_nil))))) pa_nil))) (pa_cons (pe_lst (pa_cons (pe_lst (pa_cons pe_int (pa_cons pe_int (pa_cons pe_int (pa_cons pe_int pa_nil))))) (pa_cons (pe_lst (pa_cons pe_int (pa_cons pe_int (pa_cons pe_int (pa_cons pe_int pa_nil))))) pa_nil))) (pa_cons (pe_lst (pa_cons (pe_lst (pa_cons pe_int (pa_cons pe_int (pa_cons pe_int pa_nil)))) (pa_cons (pe_lst (pa_cons pe_int (pa_cons pe_int (pa_cons pe_int pa_nil)))) pa_nil))) pa_nil)))) pa_nil))))) pss_nil)
    (pss_one (ps_ret (pe_lst (pa_cons (pe_lst (pa_cons pe_int (pa_cons pe_int (pa_cons pe_int pa_nil)))) (pa_cons (pe_lst (pa_cons pe_int (pa_cons pe_int (pa_cons pe_int pa_nil)))) pa_nil)))))))))), ?_⟩
    have fin : ∀ (H1 : Hp), DealAt H1 d l → SB d l H H1 → ∀ (rs : Nat) (ts : List (Addr × List Int)) (H' : Hp) (p : Addr), 0 < rs → rs ≤ 3 → ts.length = rs → (∀ (i : Nat) t, ts[i]? = some t → t.2.length = n ∧ ∀ z ∈ t.2, 0 ≤ z ∧ z < (n : Int)) → NewG H1 p ts → GridAt H' p ts → DealAt H' d l → SB d l H1 H' → Q (.ref p) H' := fun H1 D1 S1 rs ts H' p r0 r3 hl ht hN hG D' S' =>
      k H' _ D' (S1.trans S') ⟨p, ts, n, rfl, hN.back S1.kp (D1.free hN.top) (fun t ht' => D1.free (hN.row t ht')), hG, by omega, by omega, n0, n4, fun t ht' => by
        obtain ⟨i, hi⟩ := List.getElem?_of_mem ht'
        exact ht i t hi⟩
    refine ⟨_, rfl, rfl, _, rfl, ite2 (fun _ => ?_) (fun _ => ?_)⟩
    · refine ⟨_, rfl, d, l, 3, rfl, by decide, by decide, D, fun H1 r D1 S1 r0 r1 => ⟨_, _, rfl, rfl, 1 + r, rfl, by omega, by omega, fun D0 hD0 => ?_⟩⟩
      refine lcGR (fun _ r => r.length = n ∧ ∀ z ∈ r, 0 ≤ z ∧ z < (n : Int)) hD0 D1 (by omega) (fun i U hi x kU Q' kQ => ?_) (fun ts H' hl ht hN hG D' S' => fin H1 D1 S1 _ ts H' D0 (by omega) (by omega) hl ht hN hG D' S')
      refine ⟨_, rfl, _, rfl, (n : Int), rfl, RgOk.of_le (by decide) (by omega) (by decide) (by omega), fun q hq => ?_⟩
      refine ⟨d, l, q, (List.range n).map fun i => ((i : Nat) : Int), rfl, SqL.of ?_, by simp; omega, x.new hq, fun H' p ms x' k1 h1 h2 h3 => ?_⟩
      · rw [upd_same]
        unfold rgV
        rw [List.map_map]
        simp
      · refine kQ p ms H' x' ((SB.new hq).trans k1) (KP.free (S := dl d l) (KP.new hq) ((x.new hq).free h1) h1) h2 ⟨by rw [h3.length_eq]; simp, fun z hz => ?_⟩
        obtain ⟨i, hi, rfl⟩ := List.mem_map.mp (h3.mem_iff.mp hz)
        have := List.mem_range.mp hi
        omega
    refine ⟨_, rfl, rfl, _, rfl, ite2 (fun _ => ?_) (fun _ => ?_)⟩
    · refine ⟨by show 1 ≤ sizeLine; decide, fun a1 h1 => ⟨_, rfl, (n : Int), rfl, RgOk.of_le (by decide) (by omega) (by decide) (by omega), fun a2 h2 => ⟨a1, a2, _, _, rfl, rfl, nk upd_same h2, upd_same, ?_, fun a3 h3 => ?_⟩⟩⟩
      · unfold rgV
        exact Nat.le_trans (show _ ≤ 5 by simp; omega) (by decide)
      obtain ⟨fl, efl⟩ : ∃ fl : List Int, fl = 0 :: (List.range n).map fun i => ((i : Nat) : Int) := ⟨_, rfl⟩
      have eh : ([V.int 0] ++ rgV 0 (n : Int)) = fl.map V.int := by
        rw [efl]
        unfold rgV
        rw [List.map_cons, List.map_map]
        simp
      have hq3 : ∀ {x}, upd (upd (upd H a1 (HO.lst [V.int 0])) a2 (HO.lst (rgV 0 (n : Int)))) a3 (HO.lst ([V.int 0] ++ rgV 0 (n : Int))) a3 = some x ↔ HO.lst (fl.map V.int) = x := fun {x} => by
        rw [upd_same, eh]
        exact ⟨fun e => Option.some.inj e, fun e => by rw [e]⟩
      have fl5 : fl.length = n + 1 := by
        rw [efl]
        simp
      have flb : ∀ z ∈ fl.take n, 0 ≤ z ∧ z < (n : Int) := fun z hz => by
        rw [efl] at hz
        obtain ⟨i, hi, e⟩ := List.mem_iff_getElem?.mp hz |>.elim fun i h => (⟨i, by
          have := (List.getElem?_eq_some_iff.mp h).1
          rw [List.length_take] at this
          omega, h⟩ : ∃ i, i < n ∧ (((0 : Int) :: (List.range n).map fun i => ((i : Nat) : Int)).take n)[i]? = some z)
        rw [List.getElem?_take, if_pos hi] at e
        cases i with
        | zero =>
          have e' : (0 : Int) = z := Option.some.inj e
          omega
        | succ j =>
          rw [List.getElem?_cons_succ, List.getElem?_map, List.getElem?_range (by omega)] at e
          have e' : ((j : Nat) : Int) = z := Option.some.inj e
          omega
      have n1 := D.free h1
      have D1 := D.new (o := HO.lst [V.int 0]) h1
      have n2 := D1.free h2
      have D2 := D1.new (o := HO.lst (rgV 0 (n : Int))) h2
      have n3 := D2.free h3
      have S2 : SB d l H _ := (SB.new (o := HO.lst [V.int 0]) h1).trans (SB.new (o := HO.lst (rgV 0 (n : Int))) h2)
      have D3 := D2.new (o := HO.lst ([V.int 0] ++ rgV 0 (n : Int))) h3
      have S3 : SB d l H _ := S2.trans (SB.new (o := HO.lst ([V.int 0] ++ rgV 0 (n : Int))) h3)
      obtain ⟨H3, eH3⟩ : ∃ U, U = upd (upd (upd H a1 (HO.lst [V.int 0])) a2 (HO.lst (rgV 0 (n : Int)))) a3 (HO.lst ([V.int 0] ++ rgV 0 (n : Int))) := ⟨_, rfl⟩
      rw [← eH3] at D3 S3 hq3
      have g3 : H3 a3 = some (.lst (fl.map V.int)) := hq3.mpr rfl
      refine joinName (by with_reducible rfl) (fun v H' => ∃ (b : Addr) (ns : List Int), v = .ref b ∧ DealAt H' d l ∧ SB d l H3 H' ∧ H3 b = none ∧ H' b = some (.lst (ns.map V.int)) ∧ ns.length = n ∧ ∀ z ∈ ns, 0 ≤ z ∧ z < (n : Int)) (fun Q' kQ => ?_) (fun v H4 hR => ?_)
      · rw [← eH3]
        have ct : cutV (fl.map V.int) none (some (n : Int)) = (fl.take n).map V.int := by
          rw [cut_to (by rw [List.length_map, fl5]; omega), List.map_take]
        refine ⟨_, rfl, _, _, rfl, rfl, _, rfl, ite2 (fun _ => ?_) (fun hn2 => ?_)⟩
        · refine ⟨_, rfl, _, rfl, (n : Int), rfl, a3, _, rfl, SqL.of g3, fun p hp => kQ _ _ ⟨p, fl.take n, rfl, D3.new hp, SB.new hp, hp, by rw [upd_same, ct], by rw [List.length_take, fl5]; omega, flb⟩⟩
        · have h2 : ¬ ((n : Int) < 2) := fun q => hn2 (decide_eq_true q)
          refine ⟨_, rfl, _, rfl, (n : Int), rfl, a3, _, rfl, SqL.of g3, fun p hp => ?_⟩
          rw [ct]
          have Dp := D3.new (o := HO.lst ((fl.take n).map V.int)) hp
          have np := D3.free hp
          refine ⟨p, rfl, ⟨_, SqL.of upd_same⟩, fun D0 hD0 => ?_⟩
          have nD0 := Dp.free hD0
          have lt : (fl.take n).length = n := by rw [List.length_take, fl5]; omega
          refine lcL (K := K) (xs := (fl.take n).map V.int) (dl d l) (fun U => DealAt U d l) (fun _ y _ => ∃ z : Int, y = .int z ∧ 0 ≤ z ∧ z < (n : Int)) hD0 nD0 (by rw [List.length_map]; omega) Dp (fun U o x => x.upd nD0) (fun _ _ _ _ _ x => x) (fun U kU => SqL.of (kU.get np upd_same)) (fun i x U acc hx xU kU _ Q' kQ => ?_) (fun ys H' hl hf hD' x k1 => ?_)
          · obtain ⟨z, hz1, rfl⟩ := get_int hx
            have hzb := flb z (mem_of_get hz1)
            refine ⟨_, rfl, _, _, rfl, rfl, _, rfl, ite2 (fun hz2 => ?_) (fun _ => ⟨_, rfl, kQ _ _ xU (KP.refl _ _) ⟨z, rfl, hzb⟩⟩)⟩
            have hz3 : z < 2 := of_decide_eq_true hz2
            refine ⟨by show 2 ≤ sizeLine; decide, fun b hb => ⟨_, rfl, b, _, z, V.int (1 - z), rfl, rfl, SqL.of upd_same, ?_, kQ _ _ (xU.new hb) (KP.new hb) ⟨1 - z, rfl, by omega, by omega⟩⟩⟩
            by_cases z0 : z = 0
            · rw [z0] <;> rfl
            · have z1 : z = 1 := by omega
              rw [z1] <;> rfl
          · obtain ⟨ts, rfl, ht⟩ := collect (g := V.int) hf
            rw [List.length_map, List.length_map, lt] at hl
            have Sp : SB d l H3 H' := (SB.new (o := HO.lst ((fl.take n).map V.int)) hp).trans k1.sb
            exact kQ _ _ ⟨D0, ts, rfl, x, Sp, ff hp hD0, hD', hl, all_of_get ht⟩
      obtain ⟨b, ns, rfl, D4, S4, b0, hb, hl, hnb⟩ := hR
      have nb := D3.free b0
      have g4 := S4.kp.get n3 g3
      have S04 := S3.trans S4
      have fb : H b = none := S3.kp.free nb b0
      have ct : cutV (fl.map V.int) none (some (n : Int)) = (fl.take n).map V.int := by
        rw [cut_to (by rw [List.length_map, fl5]; omega), List.map_take]
      refine ⟨_, rfl, _, rfl, _, rfl, (n : Int), rfl, a3, _, rfl, SqL.of g4, fun q10 h10 => ⟨_, rfl, by show 2 ≤ sizeLine; decide, fun q11 h11 => ⟨by show 4 ≤ sizeLine; decide, fun q12 h12 => ⟨by show 4 ≤ sizeLine; decide, fun q13 h13 => ⟨by show 2 ≤ sizeLine; decide, fun q14 h14 => ⟨by show 1 ≤ sizeLine; decide, fun q15 h15 => ⟨_, rfl, q15, (n : Int), _, rfl, rfl, upd_same, by omega, by omega, Nat.le_trans (show 1 * ((n : Int)).toNat ≤ 1000 by omega) (by decide), fun q16 h16 => ⟨_, rfl, _, _, rfl, rfl, by show 1 ≤ sizeLine; decide, fun q17 h17 => ⟨_, rfl, q17, (n : Int), _, rfl, rfl, upd_same, by omega, by omega, Nat.le_trans (show 1 * ((n : Int)).toNat ≤ 1000 by omega) (by decide), fun q18 h18 => ⟨by show 2 ≤ sizeLine; decide, fun q19 h19 => ⟨by show 3 ≤ sizeLine; decide, fun q20 h20 => ?_⟩⟩⟩⟩⟩⟩⟩⟩⟩⟩⟩
      have n10 : ¬ dl d l q10 := D4.free h10
      have f10 : H q10 = none := S04.kp.free n10 h10
      have D10 := D4.new (o := HO.lst (cutV (fl.map V.int) none (some (n : Int)))) h10
      have S10 := S04.trans (SB.new (o := HO.lst (cutV (fl.map V.int) none (some (n : Int)))) h10)
      have n11 : ¬ dl d l q11 := D10.free h11
      have f11 : H q11 = none := S10.kp.free n11 h11
      have D11 := D10.new (o := HO.lst [V.ref q10, V.ref b]) h11
      have S11 := S10.trans (SB.new (o := HO.lst [V.ref q10, V.ref b]) h11)
      have n12 : ¬ dl d l q12 := D11.free h12
      have f12 : H q12 = none := S11.kp.free n12 h12
      have D12 := D11.new (o := HO.lst [V.int 0, V.int 2, V.int 0, V.int 2]) h12
      have S12 := S11.trans (SB.new (o := HO.lst [V.int 0, V.int 2, V.int 0, V.int 2]) h12)
      have n13 : ¬ dl d l q13 := D12.free h13
      have f13 : H q13 = none := S12.kp.free n13 h13
      have D13 := D12.new (o := HO.lst [V.int 1, V.int 3, V.int 1, V.int 3]) h13
      have S13 := S12.trans (SB.new (o := HO.lst [V.int 1, V.int 3, V.int 1, V.int 3]) h13)
      have n14 : ¬ dl d l q14 := D13.free h14
      have f14 : H q14 = none := S13.kp.free n14 h14
      have D14 := D13.new (o := HO.lst [V.ref q12, V.ref q13]) h14
      have S14 := S13.trans (SB.new (o := HO.lst [V.ref q12, V.ref q13]) h14)
      have n15 : ¬ dl d l q15 := D14.free h15
      have f15 : H q15 = none := S14.kp.free n15 h15
      have D15 := D14.new (o := HO.lst [V.int 0]) h15
      have S15 := S14.trans (SB.new (o := HO.lst [V.int 0]) h15)
      have n16 : ¬ dl d l q16 := D15.free h16
      have f16 : H q16 = none := S15.kp.free n16 h16
      have D16 := D15.new (o := HO.lst (List.replicate ((n : Int)).toNat [V.int 0]).flatten) h16
      have S16 := S15.trans (SB.new (o := HO.lst (List.replicate ((n : Int)).toNat [V.int 0]).flatten) h16)
      have n17 : ¬ dl d l q17 := D16.free h17
      have f17 : H q17 = none := S16.kp.free n17 h17
      have D17 := D16.new (o := HO.lst [V.int ((n : Int) - 1)]) h17
      have S17 := S16.trans (SB.new (o := HO.lst [V.int ((n : Int) - 1)]) h17)
      have n18 : ¬ dl d l q18 := D17.free h18
      have f18 : H q18 = none := S17.kp.free n18 h18
      have D18 := D17.new (o := HO.lst (List.replicate ((n : Int)).toNat [V.int ((n : Int) - 1)]).flatten) h18
      have S18 := S17.trans (SB.new (o := HO.lst (List.replicate ((n : Int)).toNat [V.int ((n : Int) - 1)]).flatten) h18)
      have n19 : ¬ dl d l q19 := D18.free h19
      have f19 : H q19 = none := S18.kp.free n19 h19
      have D19 := D18.new (o := HO.lst [V.ref q16, V.ref q18]) h19
      have S19 := S18.trans (SB.new (o := HO.lst [V.ref q16, V.ref q18]) h19)
      have n20 : ¬ dl d l q20 := D19.free h20
      have f20 : H q20 = none := S19.kp.free n20 h20
      have D20 := D19.new (o := HO.lst [V.ref q11, V.ref q14, V.ref q19]) h20
      have S20 := S19.trans (SB.new (o := HO.lst [V.ref q11, V.ref q14, V.ref q19]) h20)
      refine ⟨d, l, q20, _, rfl, upd_same, n20, by show 0 < 3; decide, by show 3 ≤ 1000; decide, D20, fun U i v DU SU hi => ?_⟩
      have gs := SU.kp.get n10 (nk (nk (nk (nk (nk (nk (nk (nk (nk (nk upd_same h11) h12) h13) h14) h15) h16) h17) h18) h19) h20)
      rw [ct] at gs
      have gb : U b = some (.lst (ns.map V.int)) := SU.kp.get nb (nk (nk (nk (nk (nk (nk (nk (nk (nk (nk (nk hb h10) h11) h12) h13) h14) h15) h16) h17) h18) h19) h20)
      have gr1 := SU.kp.get n16 (nk (nk (nk (nk upd_same h17) h18) h19) h20)
      have gr2 := SU.kp.get n18 (nk (nk upd_same h19) h20)
      rw [flat_rep] at gr1 gr2
      have zn : ((n : Int)).toNat = n := Int.toNat_natCast n
      rw [zn] at gr1 gr2
      have cols : ∀ (p x y : Addr) (r s : List Int), H p = none → H x = none → H y = none → U p = some (.lst [.ref x, .ref y]) → U x = some (.lst (r.map V.int)) → U y = some (.lst (s.map V.int)) → r.length = n → s.length = n → (∀ z ∈ r, 0 ≤ z ∧ z < (n : Int)) → (∀ z ∈ s, 0 ≤ z ∧ z < (n : Int)) → ColsIn H U (.ref p) := fun p x y r s hp hx hy gp gx gy lr ls br bs =>
        ⟨p, [(x, r), (y, s)], n, rfl, ⟨hp, by simp only [List.forall_mem_cons]; exact ⟨hx, hy, fun _ h => by cases h⟩⟩, ⟨gp, by simp only [List.forall_mem_cons]; exact ⟨gx, gy, fun _ h => by cases h⟩⟩, by show 0 < 2; decide, by show 2 ≤ 3; decide, n0, n4, by simp only [List.forall_mem_cons]; exact ⟨⟨lr, br⟩, ⟨ls, bs⟩, fun _ h => by cases h⟩⟩
      exact k U v DU (S20.trans SU) (pick3 (P := fun v => ColsIn H U v) hi (cols q11 q10 b (fl.take n) ns f11 f10 fb (SU.kp.get n11 (nk (nk (nk (nk (nk (nk (nk (nk (nk upd_same h12) h13) h14) h15) h16) h17) h18) h19) h20)) gs gb (by rw [List.length_take, fl5]; omega) hl flb hnb) (mkCols q14 [(q12, [0, 2, 0, 2]), (q13, [1, 3, 1, 3])] 4 f14 (by simp only [List.forall_mem_cons]; exact ⟨f12, f13, fun _ h => by cases h⟩) (SU.kp.get n14 (nk (nk (nk (nk (nk (nk upd_same h15) h16) h17) h18) h19) h20)) (by simp only [List.forall_mem_cons]; exact ⟨(SU.kp.get n12 (nk (nk (nk (nk (nk (nk (nk (nk upd_same h13) h14) h15) h16) h17) h18) h19) h20)), (SU.kp.get n13 (nk (nk (nk (nk (nk (nk (nk upd_same h14) h15) h16) h17) h18) h19) h20)), fun _ h => by cases h⟩) (show colsB 4 [[0, 2, 0, 2], [1, 3, 1, 3]] = true by decide +kernel)) (cols q19 q16 q18 (List.replicate n 0) (List.replicate n ((n : Int) - 1)) f19 f16 f18 (SU.kp.get n19 (nk upd_same h20)) (by rw [gr1, List.map_replicate]) (by rw [gr2, List.map_replicate]) (by simp) (by simp) (fun z hz => by rw [List.eq_of_mem_replicate hz]; omega) (fun z hz => by rw [List.eq_of_mem_replicate hz]; omega)))
    refine ⟨_, rfl, rfl, _, rfl, ite2 (fun _ => ?_) (fun _ => ?_)⟩
    · refine ⟨_, rfl, d, l, 3, rfl, by decide, by decide, D, fun H1 r D1 S1 r0 r1 => ⟨_, _, rfl, rfl, 1 + r, rfl, by omega, by omega, fun D0 hD0 => ?_⟩⟩
      refine lcI (fun _ z => 0 ≤ z ∧ z < 3) hD0 D1 (by omega) (fun i U hi x kU Q' kQ => ⟨_, rfl, d, l, 3, rfl, by decide, by decide, x, fun U' z x' s' z0 z1 => kQ z U' x' s' ⟨z0, z1⟩⟩) (fun ns H2 hl hz hD2 D2 S2 => ?_)
      have hz' := all_of_get hz
      have nD0 : ¬ dl d l D0 := D1.free hD0
      refine ⟨_, rfl, d, l, 2, rfl, by decide, by decide, D2, fun H3 r3 D3 S3 _ _ => ⟨rfl, _, rfl, ite2 (fun _ => ?_) (fun _ => ?_)⟩⟩ <;>
      · refine ⟨_, rfl, D0, rfl, ⟨_, SqL.of (S3.kp.get nD0 hD2)⟩, fun D4 hD4 => ?_⟩
        refine lcGL (K := K) (xs := ns.map V.int) (fun _ r => r.length = n ∧ ∀ z ∈ r, 0 ≤ z ∧ z < (n : Int)) hD4 D3 (by rw [List.length_map]; omega) (fun U kU => SqL.of (kU.kp.get nD0 (S3.kp.get nD0 hD2))) (fun i x U hx xU kU Q' kQ => ?_) (fun ts H' hl2 ht hN hG D' S' => fin H3 D3 ((S1.trans S2).trans S3) _ ts H' D4 (by rw [List.length_map]; omega) (by rw [List.length_map]; omega) hl2 ht hN hG D' S')
        obtain ⟨z, hz1, rfl⟩ : ∃ c, ns[i]? = some c ∧ V.int c = x := by
          rw [List.getElem?_map] at hx
          cases e : ns[i]? with
          | none => rw [e] at hx; cases hx
          | some c => rw [e] at hx; exact ⟨c, rfl, Option.some.inj hx⟩
        have hzb := hz' z (mem_of_get hz1)
        refine ⟨_, rfl, (n : Int), rfl, by omega, by omega, fun D5 hD5 => lcI (fun _ z => 0 ≤ z ∧ z < (n : Int)) hD5 xU (by omega) (fun i U hi x _ Q kQ => ?_) (fun ns H' hl hz hD x k1 => kQ D5 ns H' x k1 hD5 hD ⟨by omega, all_of_get hz⟩)⟩
        first
        | refine ⟨_, rfl, _, _, rfl, rfl, _, rfl, _, rfl, _, _, rfl, rfl, _, _, rfl, kQ _ _ x (SB.refl _ _ _) ?_⟩
          exact ⟨by split <;> omega, by split <;> omega⟩
        | refine ⟨_, rfl, _, rfl, _, rfl, _, _, rfl, rfl, _, _, rfl, _, _, rfl, kQ _ _ x (SB.refl _ _ _) ?_⟩
          exact ⟨by (repeat' split) <;> omega, by (repeat' split) <;> omega⟩
    refine ⟨_, rfl, rfl, _, rfl, ite2 (fun _ => ?_) (fun _ => ?_)⟩
    · skip
      refine ⟨by show 3 ≤ sizeLine; decide, fun q1 h1 => ⟨by show 3 ≤ sizeLine; decide, fun q2 h2 => ⟨by show 2 ≤ sizeLine; decide, fun q3 h3 => ⟨by show 4 ≤ sizeLine; decide, fun q4 h4 => ⟨by show 4 ≤ sizeLine; decide, fun q5 h5 => ⟨by show 2 ≤ sizeLine; decide, fun q6 h6 => ⟨by show 3 ≤ sizeLine; decide, fun q7 h7 => ⟨by show 3 ≤ sizeLine; decide, fun q8 h8 => ⟨by show 3 ≤ sizeLine; decide, fun q9 h9 => ⟨by show 3 ≤ sizeLine; decide, fun q10 h10 => ⟨by show 3 ≤ sizeLine; decide, fun q11 h11 => ⟨_, rfl, _, rfl, by show 4 ≤ sizeLine; decide, fun q12 h12 => ⟨by show 4 ≤ sizeLine; decide, fun q13 h13 => ⟨by show 4 ≤ sizeLine; decide, fun q14 h14 => ⟨by show 3 ≤ sizeLine; decide, fun q15 h15 => ⟨by show 1 ≤ sizeLine; decide, fun q16 h16 => ⟨q11, q16, _, _, rfl, rfl, (nk (nk (nk (nk (nk upd_same h12) h13) h14) h15) h16), upd_same, by show 4 ≤ sizeLine; decide, fun q17 h17 => ?_⟩⟩⟩⟩⟩⟩⟩⟩⟩⟩⟩⟩⟩⟩⟩⟩⟩
      have n1 : ¬ dl d l q1 := D.free h1
      have f1 : H q1 = none := (SB.refl d l H).kp.free n1 h1
      have D1 := D.new (o := HO.lst [V.int 2, V.int 0, V.int 2]) h1
      have S1 := (SB.refl d l H).trans (SB.new (o := HO.lst [V.int 2, V.int 0, V.int 2]) h1)
      have n2 : ¬ dl d l q2 := D1.free h2
      have f2 : H q2 = none := S1.kp.free n2 h2
      have D2 := D1.new (o := HO.lst [V.int 2, V.int 1, V.int 2]) h2
      have S2 := S1.trans (SB.new (o := HO.lst [V.int 2, V.int 1, V.int 2]) h2)
      have n3 : ¬ dl d l q3 := D2.free h3
      have f3 : H q3 = none := S2.kp.free n3 h3
      have D3 := D2.new (o := HO.lst [V.ref q1, V.ref q2]) h3
      have S3 := S2.trans (SB.new (o := HO.lst [V.ref q1, V.ref q2]) h3)
      have n4 : ¬ dl d l q4 := D3.free h4
      have f4 : H q4 = none := S3.kp.free n4 h4
      have D4 := D3.new (o := HO.lst [V.int 1, V.int 3, V.int 2, V.int 2]) h4
      have S4 := S3.trans (SB.new (o := HO.lst [V.int 1, V.int 3, V.int 2, V.int 2]) h4)
      have n5 : ¬ dl d l q5 := D4.free h5
      have f5 : H q5 = none := S4.kp.free n5 h5
      have D5 := D4.new (o := HO.lst [V.int 0, V.int 2, V.int 1, V.int 1]) h5
      have S5 := S4.trans (SB.new (o := HO.lst [V.int 0, V.int 2, V.int 1, V.int 1]) h5)
      have n6 : ¬ dl d l q6 := D5.free h6
      have f6 : H q6 = none := S5.kp.free n6 h6
      have D6 := D5.new (o := HO.lst [V.ref q4, V.ref q5]) h6
      have S6 := S5.trans (SB.new (o := HO.lst [V.ref q4, V.ref q5]) h6)
      have n7 : ¬ dl d l q7 := D6.free h7
      have f7 : H q7 = none := S6.kp.free n7 h7
      have D7 := D6.new (o := HO.lst [V.int 0, V.int 0, V.int 0]) h7
      have S7 := S6.trans (SB.new (o := HO.lst [V.int 0, V.int 0, V.int 0]) h7)
      have n8 : ¬ dl d l q8 := D7.free h8
      have f8 : H q8 = none := S7.kp.free n8 h8
      have D8 := D7.new (o := HO.lst [V.int 2, V.int 2, V.int 0]) h8
      have S8 := S7.trans (SB.new (o := HO.lst [V.int 2, V.int 2, V.int 0]) h8)
      have n9 : ¬ dl d l q9 := D8.free h9
      have f9 : H q9 = none := S8.kp.free n9 h9
      have D9 := D8.new (o := HO.lst [V.int 0, V.int 0, V.int 1]) h9
      have S9 := S8.trans (SB.new (o := HO.lst [V.int 0, V.int 0, V.int 1]) h9)
      have n10 : ¬ dl d l q10 := D9.free h10
      have f10 : H q10 = none := S9.kp.free n10 h10
      have D10 := D9.new (o := HO.lst [V.ref q7, V.ref q8, V.ref q9]) h10
      have S10 := S9.trans (SB.new (o := HO.lst [V.ref q7, V.ref q8, V.ref q9]) h10)
      have n11 : ¬ dl d l q11 := D10.free h11
      have f11 : H q11 = none := S10.kp.free n11 h11
      have D11 := D10.new (o := HO.lst [V.ref q3, V.ref q6, V.ref q10]) h11
      have S11 := S10.trans (SB.new (o := HO.lst [V.ref q3, V.ref q6, V.ref q10]) h11)
      have n12 : ¬ dl d l q12 := D11.free h12
      have f12 : H q12 = none := S11.kp.free n12 h12
      have D12 := D11.new (o := HO.lst [V.int 1, V.int 0, V.int 0, V.int 0]) h12
      have S12 := S11.trans (SB.new (o := HO.lst [V.int 1, V.int 0, V.int 0, V.int 0]) h12)
      have n13 : ¬ dl d l q13 := D12.free h13
      have f13 : H q13 = none := S12.kp.free n13 h13
      have D13 := D12.new (o := HO.lst [V.int 3, V.int 1, V.int 2, V.int 1]) h13
      have S13 := S12.trans (SB.new (o := HO.lst [V.int 3, V.int 1, V.int 2, V.int 1]) h13)
      have n14 : ¬ dl d l q14 := D13.free h14
      have f14 : H q14 = none := S13.kp.free n14 h14
      have D14 := D13.new (o := HO.lst [V.int 2, V.int 2, V.int 2, V.int 2]) h14
      have S14 := S13.trans (SB.new (o := HO.lst [V.int 2, V.int 2, V.int 2, V.int 2]) h14)
      have n15 : ¬ dl d l q15 := D14.free h15
      have f15 : H q15 = none := S14.kp.free n15 h15
      have D15 := D14.new (o := HO.lst [V.ref q12, V.ref q13, V.ref q14]) h15
      have S15 := S14.trans (SB.new (o := HO.lst [V.ref q12, V.ref q13, V.ref q14]) h15)
      have n16 : ¬ dl d l q16 := D15.free h16
      have f16 : H q16 = none := S15.kp.free n16 h16
      have D16 := D15.new (o := HO.lst [V.ref q15]) h16
      have S16 := S15.trans (SB.new (o := HO.lst [V.ref q15]) h16)
      have n17 : ¬ dl d l q17 := D16.free h17
      have f17 : H q17 = none := S16.kp.free n17 h17
      have D17 := D16.new (o := HO.lst ([V.ref q3, V.ref q6, V.ref q10] ++ [V.ref q15])) h17
      have S17 := S16.trans (SB.new (o := HO.lst ([V.ref q3, V.ref q6, V.ref q10] ++ [V.ref q15])) h17)
      refine ⟨d, l, q17, _, rfl, upd_same, n17, by show 0 < 4; decide, by show 4 ≤ 1000; decide, D17, fun U i v DU SU hi => ?_⟩
      exact k U v DU (S17.trans SU) (pick4' (P := fun v => ColsIn H U v) hi (mkCols q3 [(q1, [2, 0, 2]), (q2, [2, 1, 2])] 3 f3 (by simp only [List.forall_mem_cons]; exact ⟨f1, f2, fun _ h => by cases h⟩) (SU.kp.get n3 (nk (nk (nk (nk (nk (nk (nk (nk (nk (nk (nk (nk (nk (nk upd_same h4) h5) h6) h7) h8) h9) h10) h11) h12) h13) h14) h15) h16) h17)) (by simp only [List.forall_mem_cons]; exact ⟨(SU.kp.get n1 (nk (nk (nk (nk (nk (nk (nk (nk (nk (nk (nk (nk (nk (nk (nk (nk upd_same h2) h3) h4) h5) h6) h7) h8) h9) h10) h11) h12) h13) h14) h15) h16) h17)), (SU.kp.get n2 (nk (nk (nk (nk (nk (nk (nk (nk (nk (nk (nk (nk (nk (nk (nk upd_same h3) h4) h5) h6) h7) h8) h9) h10) h11) h12) h13) h14) h15) h16) h17)), fun _ h => by cases h⟩) (show colsB 3 [[2, 0, 2], [2, 1, 2]] = true by decide +kernel)) (mkCols q6 [(q4, [1, 3, 2, 2]), (q5, [0, 2, 1, 1])] 4 f6 (by simp only [List.forall_mem_cons]; exact ⟨f4, f5, fun _ h => by cases h⟩) (SU.kp.get n6 (nk (nk (nk (nk (nk (nk (nk (nk (nk (nk (nk upd_same h7) h8) h9) h10) h11) h12) h13) h14) h15) h16) h17)) (by simp only [List.forall_mem_cons]; exact ⟨(SU.kp.get n4 (nk (nk (nk (nk (nk (nk (nk (nk (nk (nk (nk (nk (nk upd_same h5) h6) h7) h8) h9) h10) h11) h12) h13) h14) h15) h16) h17)), (SU.kp.get n5 (nk (nk (nk (nk (nk (nk (nk (nk (nk (nk (nk (nk upd_same h6) h7) h8) h9) h10) h11) h12) h13) h14) h15) h16) h17)), fun _ h => by cases h⟩) (show colsB 4 [[1, 3, 2, 2], [0, 2, 1, 1]] = true by decide +kernel)) (mkCols q10 [(q7, [0, 0, 0]), (q8, [2, 2, 0]), (q9, [0, 0, 1])] 3 f10 (by simp only [List.forall_mem_cons]; exact ⟨f7, f8, f9, fun _ h => by cases h⟩) (SU.kp.get n10 (nk (nk (nk (nk (nk (nk (nk upd_same h11) h12) h13) h14) h15) h16) h17)) (by simp only [List.forall_mem_cons]; exact ⟨(SU.kp.get n7 (nk (nk (nk (nk (nk (nk (nk (nk (nk (nk upd_same h8) h9) h10) h11) h12) h13) h14) h15) h16) h17)), (SU.kp.get n8 (nk (nk (nk (nk (nk (nk (nk (nk (nk upd_same h9) h10) h11) h12) h13) h14) h15) h16) h17)), (SU.kp.get n9 (nk (nk (nk (nk (nk (nk (nk (nk upd_same h10) h11) h12) h13) h14) h15) h16) h17)), fun _ h => by cases h⟩) (show colsB 3 [[0, 0, 0], [2, 2, 0], [0, 0, 1]] = true by decide +kernel)) (mkCols q15 [(q12, [1, 0, 0, 0]), (q13, [3, 1, 2, 1]), (q14, [2, 2, 2, 2])] 4 f15 (by simp only [List.forall_mem_cons]; exact ⟨f12, f13, f14, fun _ h => by cases h⟩) (SU.kp.get n15 (nk (nk upd_same h16) h17)) (by simp only [List.forall_mem_cons]; exact ⟨(SU.kp.get n12 (nk (nk (nk (nk (nk upd_same h13) h14) h15) h16) h17)), (SU.kp.get n13 (nk (nk (nk (nk upd_same h14) h15) h16) h17)), (SU.kp.get n14 (nk (nk (nk upd_same h15) h16) h17)), fun _ h => by cases h⟩) (show colsB 4 [[1, 0, 0, 0], [3, 1, 2, 1], [2, 2, 2, 2]] = true by decide +kernel)))
    refine ⟨_, rfl, rfl, _, rfl, ite2 (fun _ => ?_) (fun _ => ?_)⟩
    · skip
      refine ⟨_, rfl, by show 4 ≤ sizeLine; decide, fun q1 h1 => ⟨by show 4 ≤ sizeLine; decide, fun q2 h2 => ⟨by show 2 ≤ sizeLine; decide, fun q3 h3 => ⟨by show 4 ≤ sizeLine; decide, fun q4 h4 => ⟨by show 4 ≤ sizeLine; decide, fun q5 h5 => ⟨by show 2 ≤ sizeLine; decide, fun q6 h6 => ⟨by show 3 ≤ sizeLine; decide, fun q7 h7 => ⟨by show 3 ≤ sizeLine; decide, fun q8 h8 => ⟨by show 2 ≤ sizeLine; decide, fun q9 h9 => ⟨by show 3 ≤ sizeLine; decide, fun q10 h10 => ?_⟩⟩⟩⟩⟩⟩⟩⟩⟩⟩
      have n1 : ¬ dl d l q1 := D.free h1
      have f1 : H q1 = none := (SB.refl d l H).kp.free n1 h1
      have D1 := D.new (o := HO.lst [V.int 0, V.int 0, V.int 1, V.int 2]) h1
      have S1 := (SB.refl d l H).trans (SB.new (o := HO.lst [V.int 0, V.int 0, V.int 1, V.int 2]) h1)
      have n2 : ¬ dl d l q2 := D1.free h2
      have f2 : H q2 = none := S1.kp.free n2 h2
      have D2 := D1.new (o := HO.lst [V.int 0, V.int 0, V.int 1, V.int 3]) h2
      have S2 := S1.trans (SB.new (o := HO.lst [V.int 0, V.int 0, V.int 1, V.int 3]) h2)
      have n3 : ¬ dl d l q3 := D2.free h3
      have f3 : H q3 = none := S2.kp.free n3 h3
      have D3 := D2.new (o := HO.lst [V.ref q1, V.ref q2]) h3
      have S3 := S2.trans (SB.new (o := HO.lst [V.ref q1, V.ref q2]) h3)
      have n4 : ¬ dl d l q4 := D3.free h4
      have f4 : H q4 = none := S3.kp.free n4 h4
      have D4 := D3.new (o := HO.lst [V.int 0, V.int 0, V.int 1, V.int 2]) h4
      have S4 := S3.trans (SB.new (o := HO.lst [V.int 0, V.int 0, V.int 1, V.int 2]) h4)
      have n5 : ¬ dl d l q5 := D4.free h5
      have f5 : H q5 = none := S4.kp.free n5 h5
      have D5 := D4.new (o := HO.lst [V.int 1, V.int 1, V.int 0, V.int 3]) h5
      have S5 := S4.trans (SB.new (o := HO.lst [V.int 1, V.int 1, V.int 0, V.int 3]) h5)
      have n6 : ¬ dl d l q6 := D5.free h6
      have f6 : H q6 = none := S5.kp.free n6 h6
      have D6 := D5.new (o := HO.lst [V.ref q4, V.ref q5]) h6
      have S6 := S5.trans (SB.new (o := HO.lst [V.ref q4, V.ref q5]) h6)
      have n7 : ¬ dl d l q7 := D6.free h7
      have f7 : H q7 = none := S6.kp.free n7 h7
      have D7 := D6.new (o := HO.lst [V.int 0, V.int 0, V.int 1]) h7
      have S7 := S6.trans (SB.new (o := HO.lst [V.int 0, V.int 0, V.int 1]) h7)
      have n8 : ¬ dl d l q8 := D7.free h8
      have f8 : H q8 = none := S7.kp.free n8 h8
      have D8 := D7.new (o := HO.lst [V.int 0, V.int 0, V.int 2]) h8
      have S8 := S7.trans (SB.new (o := HO.lst [V.int 0, V.int 0, V.int 2]) h8)
      have n9 : ¬ dl d l q9 := D8.free h9
      have f9 : H q9 = none := S8.kp.free n9 h9
      have D9 := D8.new (o := HO.lst [V.ref q7, V.ref q8]) h9
      have S9 := S8.trans (SB.new (o := HO.lst [V.ref q7, V.ref q8]) h9)
      have n10 : ¬ dl d l q10 := D9.free h10
      have f10 : H q10 = none := S9.kp.free n10 h10
      have D10 := D9.new (o := HO.lst [V.ref q3, V.ref q6, V.ref q9]) h10
      have S10 := S9.trans (SB.new (o := HO.lst [V.ref q3, V.ref q6, V.ref q9]) h10)
      refine ⟨d, l, q10, _, rfl, upd_same, n10, by show 0 < 3; decide, by show 3 ≤ 1000; decide, D10, fun U i v DU SU hi => ?_⟩
      exact k U v DU (S10.trans SU) (pick3 (P := fun v => ColsIn H U v) hi (mkCols q3 [(q1, [0, 0, 1, 2]), (q2, [0, 0, 1, 3])] 4 f3 (by simp only [List.forall_mem_cons]; exact ⟨f1, f2, fun _ h => by cases h⟩) (SU.kp.get n3 (nk (nk (nk (nk (nk (nk (nk upd_same h4) h5) h6) h7) h8) h9) h10)) (by simp only [List.forall_mem_cons]; exact ⟨(SU.kp.get n1 (nk (nk (nk (nk (nk (nk (nk (nk (nk upd_same h2) h3) h4) h5) h6) h7) h8) h9) h10)), (SU.kp.get n2 (nk (nk (nk (nk (nk (nk (nk (nk upd_same h3) h4) h5) h6) h7) h8) h9) h10)), fun _ h => by cases h⟩) (show colsB 4 [[0, 0, 1, 2], [0, 0, 1, 3]] = true by decide +kernel)) (mkCols q6 [(q4, [0, 0, 1, 2]), (q5, [1, 1, 0, 3])] 4 f6 (by simp only [List.forall_mem_cons]; exact ⟨f4, f5, fun _ h => by cases h⟩) (SU.kp.get n6 (nk (nk (nk (nk upd_same h7) h8) h9) h10)) (by simp only [List.forall_mem_cons]; exact ⟨(SU.kp.get n4 (nk (nk (nk (nk (nk (nk upd_same h5) h6) h7) h8) h9) h10)), (SU.kp.get n5 (nk (nk (nk (nk (nk upd_same h6) h7) h8) h9) h10)), fun _ h => by cases h⟩) (show colsB 4 [[0, 0, 1, 2], [1, 1, 0, 3]] = true by decide +kernel)) (mkCols q9 [(q7, [0, 0, 1]), (q8, [0, 0, 2])] 3 f9 (by simp only [List.forall_mem_cons]; exact ⟨f7, f8, fun _ h => by cases h⟩) (SU.kp.get n9 (nk upd_same h10)) (by simp only [List.forall_mem_cons]; exact ⟨(SU.kp.get n7 (nk (nk (nk upd_same h8) h9) h10)), (SU.kp.get n8 (nk (nk upd_same h9) h10)), fun _ h => by cases h⟩) (show colsB 3 [[0, 0, 1], [0, 0, 2]] = true by decide +kernel)))
    refine ⟨by show 3 ≤ sizeLine; decide, fun q1 h1 => ⟨by show 3 ≤ sizeLine; decide, fun q2 h2 => ⟨by show 2 ≤ sizeLine; decide, fun q3 h3 => ?_⟩⟩⟩
    have n1 : ¬ dl d l q1 := D.free h1
    have f1 : H q1 = none := (SB.refl d l H).kp.free n1 h1
    have D1 := D.new (o := HO.lst [V.int 1, V.int 1, V.int 2]) h1
    have S1 := (SB.refl d l H).trans (SB.new (o := HO.lst [V.int 1, V.int 1, V.int 2]) h1)
    have n2 : ¬ dl d l q2 := D1.free h2
    have f2 : H q2 = none := S1.kp.free n2 h2
    have D2 := D1.new (o := HO.lst [V.int 2, V.int 1, V.int 2]) h2
    have S2 := S1.trans (SB.new (o := HO.lst [V.int 2, V.int 1, V.int 2]) h2)
    have n3 : ¬ dl d l q3 := D2.free h3
    have f3 : H q3 = none := S2.kp.free n3 h3
    have D3 := D2.new (o := HO.lst [V.ref q1, V.ref q2]) h3
    have S3 := S2.trans (SB.new (o := HO.lst [V.ref q1, V.ref q2]) h3)
    exact k _ _ D3 S3 (mkCols q3 [(q1, [1, 1, 2]), (q2, [2, 1, 2])] 3 f3 (by simp only [List.forall_mem_cons]; exact ⟨f1, f2, fun _ h => by cases h⟩) ((SB.refl d l _).kp.get n3 upd_same) (by simp only [List.forall_mem_cons]; exact ⟨((SB.refl d l _).kp.get n1 (nk (nk upd_same h2) h3)), ((SB.refl d l _).kp.get n2 (nk upd_same h3)), fun _ h => by cases h⟩) (show colsB 3 [[1, 1, 2], [2, 1, 2]] = true by decide +kernel))
end
end Lk

set_option Elab.async false
set_option linter.all false
set_option maxRecDepth 100000
set_option maxHeartbeats 4000000
namespace Lk
open PySem L2
abbrev fCol (p : Addr × List Int) : V := V.ref p.1
theorem lay_ints : ∀ r : List Int, PyData.canLayAll0 (r.map PyData.int) = true ∧ PyData.depthAll (r.map PyData.int) ≤ 0
  | [] => ⟨rfl, by decide⟩
  | z :: r => by
    obtain ⟨h1, h2⟩ := lay_ints r
    refine ⟨?_, ?_⟩
    · show (true && PyData.canLayAll0 (r.map PyData.int)) = true
      rw [h1] <;> rfl
    · show max 0 (PyData.depthAll (r.map PyData.int)) ≤ 0
      omega
theorem lay_rowsL : ∀ rs : List (List Int), PyData.canLayAll0 (rs.map lstP) = true ∧ PyData.depthAll (rs.map lstP) ≤ 1
  | [] => ⟨rfl, by decide⟩
  | r :: rs => by
    obtain ⟨h1, h2⟩ := lay_rowsL rs
    obtain ⟨i1, i2⟩ := lay_ints r
    refine ⟨?_, ?_⟩
    · show (PyData.canLayAll0 (r.map PyData.int) && PyData.canLayAll0 (rs.map lstP)) = true
      rw [i1, h1] <;> rfl
    · show max (PyData.depthAll (r.map PyData.int) + 1) (PyData.depthAll (rs.map lstP)) ≤ 1
      omega
theorem shaped_rowsL (rs : List (List Int)) : SeqAt.shaped (.list (rs.map lstP)) = true := by
  obtain ⟨h1, h2⟩ := lay_rowsL rs
  have e1 : PyData.canLay0 (.list (rs.map lstP)) = true := h1
  have e2 : PyData.depth (.list (rs.map lstP)) = PyData.depthAll (rs.map lstP) + 1 := rfl
  unfold SeqAt.shaped
  rw [e1, Bool.true_and]
  exact decide_eq_true (by omega)
theorem dp_colsL {K : PySem.W.Frag} {H : Hp} : ∀ {ps : List (Addr × List Int)}, (∀ p ∈ ps, H p.1 = some (.lst (p.2.map V.int))) → DpAll K H (ps.map fCol) ((ps.map (·.2)).map lstP)
  | [], _ => .nil
  | p :: ps, h => .cons (.lst (SqL.of (h p List.mem_cons_self)) (dpAll_ints _)) (dp_colsL fun q hq => h q (List.mem_cons_of_mem _ hq))
/-- lists of ints of a list in some order, in a new list -/
def spMixedC (K : PySem.W.Frag) : Sp := fun vs H Q _ => ∃ (d l a : Addr) (ns : List (Addr × List Int)), vs = [.ref d, .ref a] ∧ (SqL K H a (ns.map fCol) ∨ SqT K H a (ns.map fCol)) ∧ ns.length ≤ 1000 ∧ DealAt H d l ∧ (∀ p ∈ ns, ¬ dl d l p.1 ∧ H p.1 = some (.lst (p.2.map V.int))) ∧
  ∀ (H' : Hp) (p : Addr) (ms : List (Addr × List Int)), DealAt H' d l → SB d l H H' → H p = none → H' p = some (.lst (ms.map fCol)) → ms.Perm ns → Q (.ref p) H'
section
variable {P : Program} {w : World} {K : PySem.W.Frag} {mg : Str → Option Value} {base : Heap}
theorem ok_mixedC {f fa : Addr} {fd fda : FuncData} (A0 : Df K mg "_law_mixed" s_law_mixed f fd P_law_mixed) (d_law_any : Df K mg "_law_any" s_law_any fa fda P_law_any) (T : Txt mg) : FnOk P w K mg base CX0 2 f fd P_law_mixed (spMixedC K) := by
  have G_law_any : FnOk P w K mg base CX0 1 fa fda P_law_any spAny := ok_any d_law_any T
  refine A0.F.ok sc_law_mixed (fun vs H Q E h => ?_) (fun cdv A outer s H vs Q E hr h => ?_)
  · obtain ⟨d, l, a, xs, rfl, _⟩ := h
    rfl
  · obtain ⟨d, l, a, ns, rfl, hx, h1, D, hrow, k⟩ := h
    have hu : A.units + 3 + 64 < cLine := by have := hr.un; simp only [Around.deeper] at this; omega
    refine ⟨_, (pss_cons (ps_par (i := 2) (j := 3) rfl sc_law_mixed.nd rfl rfl (by decide) rfl rfl (pa_cons (pe_callTy call_list_of (by rfl) T.list (by decide +kernel) (pa_cons (pv 1) pa_nil)) (pa_cons (pe_lst pa_nil) pa_nil)) rfl)
    (pss_cons (ps_while PassesOwn.never (pt_cmpR (op_neD hu) (pv 2) (pe_lst pa_nil) (nomark _))
      (pss_one (ps_expr (pe_bm PySem.F.plainAttrs_list PySem.F.slot_list_append PySem.F.type_list_append mt_append (pv 3) (pa_cons (pe_bm PySem.F.plainAttrs_list PySem.F.slot_list_pop PySem.F.type_list_pop mt_popAt (pv 2) (pa_cons (pe_call G_law_any (hr.mono (by decide)) rfl d_law_any.g d_law_any.F.kp d_law_any.b .nil pass0 (pa_cons (pv 0) (pa_cons (pe_callB call_len_seq (by rfl) T.len PySem.boot_len (pa_cons (pv 2) pa_nil)) pa_nil))) pa_nil)) pa_nil)))))
    (pss_one (ps_ret (pv 3))))), ?_⟩
    refine ⟨_, rfl, a, _, rfl, hx, fun q hq => ⟨Nat.zero_le _, fun r hr0 => ⟨_, _, rfl, ?_⟩⟩⟩
    have nqr : q ≠ r := fun e => by rw [← e, upd_same] at hr0; cases hr0
    have q0 : H q = none := hq
    have r0 : H r = none := by rw [upd_ne nqr.symm] at hr0; exact hr0
    refine ⟨fun m σ H1 => ∃ ls fs : List (Addr × List Int), σ = [some (.ref d), some (.ref a), some (.ref q), some (.ref r)] ∧ DealAt H1 d l ∧ SB d l H H1 ∧ H1 q = some (.lst (ls.map fCol)) ∧ H1 r = some (.lst (fs.map fCol)) ∧ (fs ++ ls).Perm ns ∧ m = ls.length,
      ⟨_, ns, [], rfl, ?_, ?_, ?_, ?_, List.Perm.refl _, rfl⟩, ?_⟩
    · exact (D.new hq).new hr0
    · exact ((KP.new (S := dl d l) hq).trans (KP.new hr0)).sb
    · rw [upd_ne nqr, upd_same]
    · rw [upd_same]
      rfl
    · rintro m σ H1 ⟨ls, fs, rfl, D1, S1, hq1, hr1, hp, rfl⟩
      have rows : ∀ p ∈ ls, H1 p.1 = some (.lst (p.2.map V.int)) := fun p hp' => by
        obtain ⟨z1, z2⟩ := hrow p (hp.mem_iff.mp (List.mem_append_right _ hp'))
        exact S1.kp.get z1 z2
      refine ⟨_, rfl, Nat.zero_le _, fun z hz => ⟨_, _, Dp.lst (SqL.of (by rw [upd_ne (ne_of_none hq1 hz)]; exact hq1)) (dp_colsL fun p hp' => nk (rows p hp') hz), Dp.lst (SqL.of upd_same) .nil, shaped_rowsL _, by decide +kernel, _, rfl, ?_⟩⟩
      have D2 := D1.new (o := HO.lst []) hz
      have S2 : SB d l H _ := S1.trans (SB.new (o := HO.lst []) hz)
      have hq2 : upd H1 z (HO.lst []) q = some (.lst (ls.map fCol)) := by rw [upd_ne (ne_of_none hq1 hz)]; exact hq1
      have hr2 : upd H1 z (HO.lst []) r = some (.lst (fs.map fCol)) := by rw [upd_ne (ne_of_none hr1 hz)]; exact hr1
      rw [eqv_nil]
      have nq : ¬ dl d l q := D.free q0
      have nr : ¬ dl d l r := D.free r0
      cases ls with
      | nil =>
        refine iteF ?_
        refine ⟨_, rfl, ?_⟩
        rw [List.append_nil] at hp
        exact k _ r fs D2 S2 r0 hr2 hp
      | cons x xs =>
        refine iteT ⟨fun σ' H' => ∃ m', m' < (x :: xs).length ∧ ∃ ls fs : List (Addr × List Int), σ' = [some (.ref d), some (.ref a), some (.ref q), some (.ref r)] ∧ DealAt H' d l ∧ SB d l H H' ∧ H' q = some (.lst (ls.map fCol)) ∧ H' r = some (.lst (fs.map fCol)) ∧ (fs ++ ls).Perm ns ∧ m' = ls.length, fun _ _ h => h, ?_⟩
        have hlen : (x :: xs).length ≤ 1000 := by
          have := hp.length_eq
          rw [List.length_append] at this
          omega
        refine ⟨_, rfl, .inl ⟨rfl, _, SqL.of hr2⟩, _, rfl, .inl ⟨rfl, _, SqL.of hq2⟩, _, rfl, _, rfl, q, _, rfl, .inl (SqL.of hq2), d, l, _, rfl, by rw [List.length_map]; simp, by rw [List.length_map]; omega, D2, fun H3 i D3 S3 i0 i1 => ?_⟩
        rw [List.length_map] at i1
        have hi : i.toNat < (x :: xs).length := by omega
        have hq3 : H3 q = some (.lst ((x :: xs).map fCol)) := S3.kp.get nq hq2
        have hr3 : H3 r = some (.lst (fs.map fCol)) := S3.kp.get nr hr2
        refine ⟨q, _, i, i.toNat, fCol (x :: xs)[i.toNat], rfl, rfl, hq3, by omega, by omega, seqIndex_of i0 (by rw [List.length_map]; exact i1), ?_, ?_⟩
        · rw [List.getElem?_map, List.getElem?_eq_getElem hi]
          rfl
        · refine ⟨r, _, _, rfl, rfl, by rw [upd_ne nqr.symm]; exact hr3, ?_, ?_⟩
          · have := hp.length_eq
            rw [List.length_append] at this
            rw [List.length_map]
            exact Nat.lt_of_le_of_lt (by omega : _ ≤ 1000) (by decide)
          · refine ⟨((x :: xs).eraseIdx i.toNat).length, ?_, (x :: xs).eraseIdx i.toNat, fs ++ [(x :: xs)[i.toNat]], rfl, ?_, ?_, ?_, ?_, ?_, rfl⟩
            · rw [List.length_eraseIdx, if_pos hi]
              omega
            · exact (D3.upd nq).upd nr
            · exact (((S2.trans S3).kp.mut q0).mut r0).sb
            · rw [upd_ne nqr, upd_same, eraseIdx_map]
            · rw [upd_same, List.map_append]
              rfl
            · rw [List.append_assoc]
              refine (List.Perm.append_left fs ?_).trans hp
              exact perm_erase hi
end
end Lk

set_option Elab.async false
set_option linter.all false
set_option maxRecDepth 100000
set_option maxHeartbeats 8000000
namespace Lk
open PySem L2
abbrev s_law_graded : Stmt := top 38
abbrev N_law_graded : List Str := ["deal", "which", "columns", "many", "found", "names", "column", "to", "state"]
abbrev P_law_graded : List Str := ["deal"]
theorem sc_law_graded : FnScope N_law_graded P_law_graded (defScope s_law_graded) := ⟨rfl, rfl, rfl, by decide +kernel, rfl, by decide +kernel, by decide +kernel⟩
/-- a drawn machine of some grade: (commands, steps) -/
def spGraded : Sp := fun vs H Q _ => ∃ (d l : Addr), vs = [.ref d] ∧ DealAt H d l ∧
  ∀ (H' : Hp) (t p : Addr) (A : Nat) (ts : List (Addr × List Int)), DealAt H' d l → SB d l H H' → H t = none → H' t = some (.tup [.int A, .ref p]) → NewG H p ts → GridAt H' p ts → 0 < A → A ≤ 3 → (ts.length : Int) ≤ 4 → RowsOk A ts → Q (.ref t) H'
theorem DealAt.kp {H U : Hp} {d l : Addr} {S : Addr → Prop} (x : DealAt H d l) (k : KP S H U) (h : ∀ a, dl d l a → ¬ S a) : DealAt U d l := by
  obtain ⟨bs, b, y⟩ := x
  exact ⟨bs, b, k _ _ y.hd (h _ (.inl rfl)), k _ _ y.hl (h _ (.inr rfl)), y.pos, y.len, y.b0, y.b1⟩
section
variable {P : Program} {w : World} {K : PySem.W.Frag} {mg : Str → Option Value} {base : Heap}
theorem ok_graded {f fa fo fm fx fc fk : Addr} {fd fda fdo fdm fdx fdc fdk : FuncData} (A0 : Df K mg "_law_graded" s_law_graded f fd P_law_graded) (d_law_any : Df K mg "_law_any" s_law_any fa fda P_law_any) (d_law_of : Df K mg "_law_of" s_law_of fo fdo P_law_of) (d_law_machine : Df K mg "_law_machine" s_law_machine fm fdm P_law_machine)
    (d_law_mixed : Df K mg "_law_mixed" s_law_mixed fx fdx P_law_mixed) (d_law_columns_of : Df K mg "_law_columns_of" s_law_columns_of fc fdc P_law_columns_of) (d_law_columns : Df K mg "_law_columns" s_law_columns fk fdk P_law_columns)
    (G_law_machine : FnOk P w K mg base CX0 4 fm fdm P_law_machine spMachine) (T : Txt mg) : FnOk P w K mg base CX0 5 f fd P_law_graded spGraded := by
  have G_law_any : FnOk P w K mg base CX0 1 fa fda P_law_any spAny := ok_any d_law_any T
  have G_law_columns_of : FnOk P w K mg base CX0 3 fc fdc P_law_columns_of spColsOf := ok_cols_of d_law_columns_of d_law_any d_law_of d_law_mixed T
  have G_law_mixedC : FnOk P w K mg base CX0 2 fx fdx P_law_mixed (spMixedC K) := ok_mixedC d_law_mixed d_law_any T
  have G_law_mixed : FnOk P w K mg base CX0 2 fx fdx P_law_mixed (spMixed K) := ok_mixed d_law_mixed d_law_any T
  have G_law_columns : FnOk P w K mg base CX0 1 fk fdk P_law_columns spColumns := ok_columns d_law_columns T
  refine A0.F.ok sc_law_graded (fun vs H Q E h => ?_) (fun cdv Ar outer s H vs Q E hr h => ?_)
  · obtain ⟨d, l, rfl, _⟩ := h
    rfl
  · obtain ⟨d, l, rfl, D, k⟩ := h
    refine ⟨_, (pss_cons (ps_set (i := 1) sc_law_graded.nd rfl (Or.inl rfl) (pe_call G_law_any (hr.mono (by decide)) rfl d_law_any.g d_law_any.F.kp d_law_any.b .nil pass0 (pa_cons (pv 0) (pa_cons pe_int pa_nil))))
    (pss_cons (ps_if (pt_cmpR op_gt (pv 1) pe_int (nomark _)) (pss_one (ps_ret (pe_call G_law_machine (hr.mono (by decide)) rfl d_law_machine.g d_law_machine.F.kp d_law_machine.b .nil pass0 (pa_cons (pv 0) (pa_cons pe_int pa_nil))))) pss_nil)
    (pss_cons (ps_set (i := 2) sc_law_graded.nd rfl (Or.inl rfl) (pe_call G_law_mixedC (hr.mono (by decide)) rfl d_law_mixed.g d_law_mixed.F.kp d_law_mixed.b .nil pass0 (pa_cons (pv 0) (pa_cons (pe_call G_law_columns_of (hr.mono (by decide)) rfl d_law_columns_of.g d_law_columns_of.F.kp d_law_columns_of.b .nil pass0 (pa_cons (pv 0) (pa_cons (pv 1) (pa_cons (pe_op op_add pe_int (pe_call G_law_any (hr.mono (by decide)) rfl d_law_any.g d_law_any.F.kp d_law_any.b .nil pass0 (pa_cons (pv 0) (pa_cons pe_int pa_nil)))) pa_nil)))) pa_nil))))
    (pss_cons (ps_par (i := 3) (j := 4) rfl sc_law_graded.nd rfl rfl (by decide) rfl rfl (pa_cons (pe_callB call_len_seq (by rfl) T.len PySem.boot_len (pa_cons (pe_ix ix_list (pv 2) pe_int (fun _ _ => rfl)) pa_nil)) (pa_cons (pe_lst pa_nil) pa_nil)) rfl)
    (pss_cons (ps_set (i := 5) sc_law_graded.nd rfl (Or.inl rfl) (pe_call G_law_mixed (hr.mono (by decide)) rfl d_law_mixed.g d_law_mixed.F.kp d_law_mixed.b .nil pass0 (pa_cons (pv 0) (pa_cons (pe_listRg rfl (by rfl) T.list (prg_1 (by rfl) T.range (pv 3))) pa_nil))))
    (pss_cons (ps_for PassesOwn.never rfl (pi_list (pv 2)) (pg_name (i := 6) sc_law_graded.nd rfl (Or.inl rfl))
      (pss_cons (ps_set (i := 7) sc_law_graded.nd rfl (Or.inl rfl) (pe_op op_rep (pe_lst (pa_cons pe_int pa_nil)) (pv 3)))
      (pss_cons (ps_for PassesOwn.never rfl (pi_range1 rfl T.range (pa_cons (pv 3) pa_nil)) (pg_name (i := 8) sc_law_graded.nd rfl (Or.inl rfl))
        (pss_one (ps_asg (pe_ix ix_list (pv 5) (pe_ix ix_list (pv 6) (pv 8) (fun _ _ => rfl)) (fun _ _ => rfl)) (pg_sub (pv 7) (pe_ix ix_list (pv 5) (pv 8) (fun _ _ => rfl)) set_list))))
      (pss_one (ps_expr (pe_bm PySem.F.plainAttrs_list PySem.F.slot_list_append PySem.F.type_list_append mt_append (pv 4) (pa_cons (pv 7) pa_nil)))))))
    (pss_one (ps_ret (pe_tup (pa_cons (pe_callB call_len_seq (by rfl) T.len PySem.boot_len (pa_cons (pv 2) pa_nil)) (pa_cons (pe_call G_law_columns (hr.mono (by decide)) rfl d_law_columns.g d_law_columns.F.kp d_law_columns.b .nil pass0 (pa_cons (pv 4) pa_nil)) pa_nil))))))))))), ?_⟩
    refine ⟨_, rfl, d, l, 9, rfl, by decide, by decide, D, fun H1 wh D1 S1 w0 w1 => ⟨_, rfl, _, _, rfl, rfl, _, rfl, ite2 (fun _ => ?_) (fun _ => ?_)⟩⟩
    · exact ⟨_, rfl, d, l, 4, rfl, by decide, by decide, D1, fun H' t p A ts D' S' ht0 ht hN hG A0 A3 hl R => k H' t p A ts D' (S1.trans S') (S1.kp.free (D1.free ht0) ht0) ht (hN.back S1.kp (D1.free hN.top) fun u hu => D1.free (hN.row u hu)) hG A0 A3 hl R⟩
    refine ⟨_, rfl, _, rfl, _, rfl, _, rfl, d, l, 4, rfl, by decide, by decide, D1, fun H2 r D2 S2 r0 r1 => ⟨_, _, rfl, rfl, ?_⟩⟩
    obtain ⟨rn, rfl⟩ : ∃ n : Nat, r = (n : Int) := ⟨r.toNat, by omega⟩
    refine ⟨d, l, wh, 1 + rn, by show [V.ref d, V.int wh, V.int (1 + (rn : Int))] = [V.ref d, V.int wh, V.int ((1 + rn : Nat) : Int)]; rw [show ((1 + rn : Nat) : Int) = 1 + (rn : Int) by omega], by omega, by omega, D2, fun H3 v D3 S3 hC => ?_⟩
    obtain ⟨p, cs, m, rfl, hN, hG, hc⟩ := hC
    have np := D2.free hN.top
    have nrow : ∀ t ∈ cs, ¬ dl d l t.1 := fun t ht => D2.free (hN.row t ht)
    refine ⟨d, l, p, cs, rfl, .inl (SqL.of hG.top), by have := hc.le; omega, D3, fun t ht => ⟨nrow t ht, hG.row t ht⟩, fun H4 q ms D4 S4 hq0 hq hp4 => ?_⟩
    have ml : ms.length = cs.length := hp4.length_eq
    have mrow : ∀ t ∈ ms, ¬ dl d l t.1 ∧ H4 t.1 = some (.lst (t.2.map V.int)) ∧ t.2.length = m ∧ ∀ z ∈ t.2, 0 ≤ z ∧ z < (m : Int) := fun t ht => by
      have hm := hp4.mem_iff.mp ht
      exact ⟨nrow t hm, S4.kp.get (nrow t hm) (hG.row t hm), hc.row t hm⟩
    have nq := D3.free hq0
    obtain ⟨c0, cr, ec⟩ : ∃ c0 cr, ms = c0 :: cr := List.exists_cons_of_ne_nil (fun e => by
      have := hc.ne
      rw [e] at ml
      simp at ml
      omega)
    have hc0 : c0 ∈ ms := by
      rw [ec]
      exact List.mem_cons_self
    obtain ⟨n0r, r0c, l0c, b0c⟩ := mrow c0 hc0
    refine ⟨_, rfl, q, _, 0, V.ref c0.1, rfl, rfl, SqL.of hq, atI_int (by decide) (by rw [ec] <;> rfl), c0.1, _, rfl, .inl (SqL.of r0c), Nat.zero_le _, fun fq hfq => ⟨_, _, rfl, ?_⟩⟩
    rw [List.length_map, l0c]
    have D5 := D4.new (o := HO.lst []) hfq
    have nfq := D4.free hfq
    have m0 := hc.n0
    have m4 := hc.n4
    refine ⟨_, rfl, _, rfl, (m : Int), rfl, RgOk.of_le (by decide) (by omega) (by decide) (by omega), fun z hz => ?_⟩
    refine ⟨d, l, z, (List.range m).map fun i => ((i : Nat) : Int), rfl, SqL.of ?_, by simp; omega, D5.new hz, fun H6 nm ns D6 S6 hnm0 hnm hpn => ?_⟩
    · rw [upd_same]
      unfold rgV
      rw [List.map_map]
      simp
    have nl : ns.length = m := by rw [hpn.length_eq]; simp
    have nb : ∀ y ∈ ns, 0 ≤ y ∧ y < (m : Int) := fun y hy => by
      obtain ⟨i, hi, rfl⟩ := List.mem_map.mp (hpn.mem_iff.mp hy)
      have := List.mem_range.mp hi
      omega
    have S46 : SB d l H4 H6 := ((SB.new (o := HO.lst []) hfq).trans (SB.new (o := HO.lst (rgV 0 (m : Int))) hz)).trans S6
    have hf6 : H6 fq = some (.lst []) := S6.kp.get nfq (nk upd_same hz)
    have hq6 : H6 q = some (.lst (ms.map fCol)) := S46.kp.get nq hq
    have row6 : ∀ t ∈ ms, H6 t.1 = some (.lst (t.2.map V.int)) := fun t ht => S46.kp.get (mrow t ht).1 (mrow t ht).2.1
    have rne : ∀ t ∈ ms, t.1 ≠ fq := fun t ht e => by
      have := (mrow t ht).2.1
      rw [e, hfq] at this
      cases this
    have qne : q ≠ fq := fun e => by
      rw [e, hfq] at hq
      cases hq
    have nmne : nm ≠ fq := fun e => by
      rw [e, nk upd_same hz] at hnm0
      cases hnm0
    have S06 : SB d l H H6 := ((((S1.trans S2).trans S3).trans S4).trans S46)
    refine ⟨_, rfl, q, rfl, ⟨_, SqL.of hq6⟩, for_list (K := K) (a := q) (xs := ms.map fCol) (fun i σ U => ∃ (fs : List (Addr × List Int)) (v6 v7 v8 : Option V), σ = [some (.ref d), some (.int wh), some (.ref q), some (.int (m : Int)), some (.ref fq), some (.ref nm), v6, v7, v8] ∧ KP (fun a => a = fq) H6 U ∧ U fq = some (.lst (fs.map fCol)) ∧ fs.length = i ∧
      ∀ t ∈ fs, H6 t.1 = none ∧ U t.1 = some (.lst (t.2.map V.int)) ∧ t.2.length = m ∧ ∀ y ∈ t.2, 0 ≤ y ∧ y < (m : Int)) ⟨[], none, none, none, rfl, KP.refl _ _, hf6, rfl, fun t ht => by cases ht⟩ (fun i σ U _ ⟨_, _, _, _, _, kU, _⟩ => SqL.of (kU.get qne hq6)) ?_ ?_⟩
    · rintro i x σ U hi ⟨fs, v6, v7, v8, rfl, kU, hfU, hfl, hfr⟩
      rw [List.getElem?_map] at hi
      obtain ⟨c, hci, rfl⟩ : ∃ c, ms[i]? = some c ∧ V.ref c.1 = x := by
        cases e : ms[i]? with
        | none => rw [e] at hi; cases hi
        | some c => rw [e] at hi; exact ⟨c, rfl, Option.some.inj hi⟩
      have hcm := mem_of_get hci
      have hil : i < ms.length := (List.getElem?_eq_some_iff.mp hci).1
      obtain ⟨nc, _, lc, bc⟩ := mrow c hcm
      have rc := kU.get (rne c hcm) (row6 c hcm)
      have rn6 := kU.get nmne hnm
      refine ⟨by show 1 ≤ sizeLine; decide, fun p1 hp1 => ⟨_, rfl, p1, (m : Int), _, rfl, rfl, upd_same, by omega, by omega, Nat.le_trans (show 1 * ((m : Int)).toNat ≤ 1000 by omega) (by decide), fun p2 hp2 => ?_⟩⟩
      rw [flat_rep, Int.toNat_natCast]
      obtain ⟨U1, eU1⟩ : ∃ W, W = upd (upd U p1 (HO.lst [V.int 0])) p2 (HO.lst (List.replicate m (V.int 0))) := ⟨_, rfl⟩
      have S1' : Same U U1 := by
        rw [eU1]
        exact (Same.new hp1).trans (Same.new hp2)
      have g2 : U1 p2 = some (.lst ((List.replicate m (0 : Int)).map V.int)) := by
        rw [eU1, upd_same, List.map_replicate]
      have p2U : U p2 = none := ff hp1 hp2
      rw [← eU1]
      have ne2 : ∀ {a : Addr} {o : HO}, U a = some o → a ≠ p2 := fun h e => by
        rw [e, p2U] at h
        cases h
      refine ⟨_, rfl, (m : Int), rfl, by omega, by omega, ?_⟩
      refine for_range (lo := 0) (n := ((m : Int)).toNat) (fun j σ W => ∃ (zs : List Int) (v8 : Option V), σ = [some (.ref d), some (.int wh), some (.ref q), some (.int (m : Int)), some (.ref fq), some (.ref nm), some (.ref c.1), some (.ref p2), v8] ∧ KP (fun a => a = p2) U1 W ∧ W p2 = some (.lst (zs.map V.int)) ∧ zs.length = m ∧ ∀ y ∈ zs, 0 ≤ y ∧ y < (m : Int)) ⟨List.replicate m 0, v8, rfl, KP.refl _ _, g2, by simp, fun y hy => by rw [List.eq_of_mem_replicate hy]; omega⟩ ?_ ?_
      · rintro j σ W hj ⟨zs, v8, rfl, kW, gW, zl, zb⟩
        rw [Int.toNat_natCast] at hj
        have rcW := kW.get (ne2 rc) (S1' _ _ rc)
        have rnW := kW.get (ne2 rn6) (S1' _ _ rn6)
        obtain ⟨cj, hcj⟩ : ∃ z, c.2[j]? = some z := ⟨_, List.getElem?_eq_getElem (by omega)⟩
        have bcj := bc cj (mem_of_get hcj)
        obtain ⟨nj, hnj⟩ : ∃ z, ns[j]? = some z := ⟨_, List.getElem?_eq_getElem (by omega)⟩
        have bnj := nb nj (mem_of_get hnj)
        obtain ⟨nk2, hnk⟩ : ∃ z, ns[cj.toNat]? = some z := ⟨_, List.getElem?_eq_getElem (by omega)⟩
        have bnk := nb nk2 (mem_of_get hnk)
        have ej : (0 + (j : Int)).toNat = j := by omega
        refine ⟨_, rfl, _, rfl, _, rfl, c.1, _, _, V.int cj, rfl, rfl, SqL.of rcW, atI_int (by omega) (by rw [ej, List.getElem?_map, hcj] <;> rfl), nm, _, cj, V.int nk2, rfl, rfl, SqL.of rnW, atI_int bcj.1 (by rw [List.getElem?_map, hnk] <;> rfl), ?_⟩
        refine ⟨_, rfl, _, rfl, _, rfl, nm, _, _, V.int nj, rfl, rfl, SqL.of rnW, atI_int (by omega) (by rw [ej, List.getElem?_map, hnj] <;> rfl), p2, _, nj, nj.toNat, rfl, rfl, gW, ?_, ?_⟩
        · unfold ixN
          rw [if_pos bnj.1, if_pos (by rw [List.length_map]; omega)]
        · refine ⟨zs.set nj.toNat nk2, _, rfl, fun a o h n => by rw [upd_ne n]; exact kW a o h n, by rw [upd_same, List.map_set], by rw [List.length_set]; exact zl, fun y hy => ?_⟩
          rcases List.mem_or_eq_of_mem_set hy with h | h
          · exact zb y h
          · rw [h]
            exact bnk
      · rintro σ W ⟨zs, v8, rfl, kW, gW, zl, zb⟩
        have fne2 : fq ≠ p2 := ne2 hfU
        have fW := kW.get fne2 (S1' _ _ hfU)
        have p26 : H6 p2 = none := kU.free fne2.symm p2U
        refine ⟨_, rfl, .inl ⟨rfl, _, SqL.of fW⟩, _, rfl, fq, _, _, rfl, rfl, fW, ?_, ?_⟩
        · rw [List.length_map, hfl]
          have := hc.le
          exact Nat.lt_of_lt_of_le (show i < 1000 by omega) (by decide)
        · refine ⟨fs ++ [(p2, zs)], _, _, _, rfl, fun a o h n => ?_, by rw [upd_same, List.map_append] <;> rfl, by rw [List.length_append, hfl] <;> rfl, fun t ht => ?_⟩
          · rw [upd_ne n]
            have n2 : a ≠ p2 := fun e => by
              rw [e, p26] at h
              cases h
            exact kW a o (S1' _ _ (kU a o h n)) n2
          · rcases List.mem_append.mp ht with h | h
            · obtain ⟨h1, h2, h3⟩ := hfr t h
              have n1 : t.1 ≠ fq := fun e => by
                rw [e, hf6] at h1
                cases h1
              exact ⟨h1, by rw [upd_ne n1]; exact kW.get (ne2 h2) (S1' _ _ h2), h3⟩
            · rw [List.mem_singleton.mp h]
              exact ⟨p26, by rw [upd_ne fne2.symm]; exact gW, zl, zb⟩
    · rintro σ U ⟨fs, v6, v7, v8, rfl, kU, hfU, hfl, hfr⟩
      rw [List.length_map] at hfl
      have D7 : DealAt U d l := D6.kp kU (fun a ha e => nfq (by rw [← e]; exact ha))
      have hqU := kU.get qne hq6
      have cle := hc.le
      have cne := hc.ne
      refine ⟨_, rfl, q, _, rfl, .inl (SqL.of hqU), _, rfl, fq, fs, m, rfl, ⟨hfU, fun t ht => (hfr t ht).2.1⟩, by omega, by omega, by omega, fun t ht => (hfr t ht).2.2.1, fun U' pu us SU hNu hGu hul hur => ⟨by show 2 ≤ sizeLine; decide, fun t ht => ?_⟩⟩
      have fq0 : H fq = none := (((S1.trans S2).trans S3).trans S4).kp.free nfq hfq
      have SU6 : SB d l H U := fun a o h n1 n2 => kU a o (S06 a o h n1 n2) (fun e => by rw [e, fq0] at h; cases h)
      have SUe : SB d l H (upd U' t (HO.tup [V.int ((ms.map fCol).length : Int), V.ref pu])) := (SU6.trans (KP.same SU).sb).trans (SB.new ht)
      have D8 : DealAt U' d l := D7.same SU
      have hA : (ms.map fCol).length = ms.length := List.length_map ..
      have new : ∀ a, U a = none → H a = none := fun a ha => SU6.kp.free (D7.free ha) ha
      refine k _ t pu (ms.map fCol).length us (D8.new ht) SUe (new t ?_) upd_same ⟨new _ hNu.top, fun u hu => new _ (hNu.row u hu)⟩ (hGu.new ht) (by omega) (by omega) (by omega) ⟨by omega, fun u hu => ?_⟩
      · cases e : U t with
        | none => rfl
        | some o =>
          rw [SU _ _ e] at ht
          cases ht
      · obtain ⟨h1, h2⟩ := hur u hu
        refine ⟨by omega, fun z hz => ?_⟩
        obtain ⟨t2, ht2, hz2⟩ := h2 z hz
        have := (hfr t2 ht2).2.2.2 z hz2
        omega
end
end Lk

set_option Elab.async false
set_option linter.all false
set_option maxRecDepth 100000
set_option maxHeartbeats 4000000
/-! a dict is no tuple -/
namespace Lk
open PySem PyProof.Rows
open AutoSeq1 (wpAny_loadPart')
open MeetsSeq
theorem dict_says_no (l m : Addr) (ol om : Obj) (hl : ol.cls = .type "dict") (hm : om.cls = .type "tuple") :
    Meets (Builtin.«dict.__eq__» ⟨[.ref l, .ref m], []⟩) (fun _ R s => (s.heap.get? l = some ol ∧ s.heap.get? m = some om) ∧ R (.ok (.ret .notImplemented)) s) :=
  .of_wp fun prog w A R s h => by
    obtain ⟨hp, g, d, tk, os⟩ := s
    obtain ⟨⟨h1, h2⟩, h⟩ := h
    obtain ⟨cl, dl, tl, sl⟩ := ol
    obtain ⟨cm, dm, tm, sm⟩ := om
    simp only at hl hm
    subst hl hm
    have f1 := F.sub_tuple_dict
    wp_walk using wpAny_loadPart' h1, wpAny_loadPart' h2, wpAny_load h1, wpAny_load h2
    exact ⟨_, rfl, h⟩
theorem tuple_says_no (l m : Addr) (ol om : Obj) (hl : ol.cls = .type "tuple") (hm : om.cls = .type "dict") (items : Array Value) (n : Nat) (hd : ol.data = .seq items n) :
    Meets (Builtin.«tuple.__eq__» ⟨[.ref l, .ref m], []⟩) (fun _ R s => (s.heap.get? l = some ol ∧ s.heap.get? m = some om) ∧ R (.ok (.ret .notImplemented)) s) :=
  .of_wp fun prog w A R s h => by
    obtain ⟨hp, g, d, tk, os⟩ := s
    obtain ⟨⟨h1, h2⟩, h⟩ := h
    obtain ⟨cl, dl, tl, sl⟩ := ol
    obtain ⟨cm, dm, tm, sm⟩ := om
    simp only at hl hm hd
    subst hl hm hd
    have f1 := F.sub_dict_tuple
    wp_walk using wpAny_loadPart' h1, wpAny_loadPart' h2, wpAny_load h1, wpAny_load h2
    exact ⟨_, rfl, h⟩
end Lk
namespace Lk
open PySem PySem.Spec PyProof.Rows L2
/-- d == t, d an empty dict, t a tuple -/
def rDT : V → V → Hp → VK → Prop := fun x y H Q => ∃ (a b : Addr) (xs : List V), x = .ref a ∧ y = .ref b ∧ H a = some (.dK []) ∧ H b = some (.tup xs) ∧ Q (.bl false) H
theorem op_eq_dt {X : Cx} (hu : X.A.units < cLine) : OpR X (compareOp .Eq) rDT := by
  intro pins s σ H x y v u Q I rx ry h
  obtain ⟨a, b, xs, rfl, rfl, ea, eb, q⟩ := h
  obtain rfl : v = Value.ref a := rx
  obtain rfl : u = Value.ref b := ry
  obtain ⟨_, _, va, ra, da⟩ := (show ObjOk X.prog X.w H s.heap a (.dK []) from I.hok a _ ea)
  obtain ⟨_, its, rb, tb⟩ := (show ObjOk X.prog X.w H s.heap b (.tup xs) from I.hok b _ eb)
  obtain ⟨ob, hb, cb, nb, db⟩ := tb
  have ty : s.TypeIs (.ref a) "dict" := da.typeIs
  obtain ⟨oa, ha, ca⟩ : ∃ o, s.heap.get? a = some o ∧ o.cls = .type "dict" := by
    obtain ⟨o, _, _, h1, h2, _⟩ := da
    exact ⟨o, h1, h2.1⟩
  have hab : a ≠ b := fun e => by
    rw [e, hb] at ha
    have := Option.some.inj ha
    rw [← this, cb] at ca
    injection ca with ca
    exact absurd ca (by decide)
  show wpAny _ _ (richCompare .Eq (.ref a) (.ref b)) _ _ s
  refine SeqAt.rc_eq_decline_or (k := false) ty ⟨ob, hb, cb⟩ (by decide) F.sub_tuple_dict F.slot_dict_eq F.slot_tuple_eq_refl
    (fun _ hq => call_meets F.slot_dict_eq ty F.entry_dict_eq (F.args_dict_eq_2 _ _) (dict_says_no a b oa ob ca cb) ⟨⟨ha, hb⟩, hq⟩)
    (fun _ hq => call_meets F.slot_tuple_eq_refl ⟨ob, hb, cb⟩ F.entry_tuple_eq (F.args_tuple_eq_2 _ _) (tuple_says_no b a ob oa cb ca _ nb db) ⟨⟨hb, ha⟩, hq⟩)
    (fun Q' hq => ?_) (.inr hu) ⟨.bl false, H, I, rfl, q⟩
  show wpAny _ _ (if (a == b) = true then pure true else _) Q' _ s
  rw [if_neg (by simpa using hab)]
  refine wpAny_bind (wpAny_load ha (wpAny_bind (wpAny_load hb ?_)))
  split
  · rename_i h1 _ _ _
    rw [ca] at h1
    injection h1 with h1
    exact absurd h1 (by decide)
  · exact wpAny_pure hq
/-- either rule -/
theorem opOr {X : Cx} {f : Value → Value → Sem Value} {r1 r2 : V → V → Hp → VK → Prop} (a : OpR X f r1) (b : OpR X f r2) : OpR X f (fun x y H Q => r1 x y H Q ∨ r2 x y H Q) := fun pins s σ H x y v u Q I rx ry h => h.elim (a pins s σ H x y v u Q I rx ry) (b pins s σ H x y v u Q I rx ry)
end Lk

set_option Elab.async false
set_option linter.all false
set_option maxRecDepth 100000
set_option maxHeartbeats 4000000
namespace Lk
open PySem L2
abbrev s_law_corrected : Stmt := top 39
abbrev N_law_corrected : List Str := ["deal", "commands", "row", "form", "at", "some"]
abbrev P_law_corrected : List Str := ["deal", "commands", "row"]
theorem sc_law_corrected : FnScope N_law_corrected P_law_corrected (defScope s_law_corrected) := ⟨rfl, rfl, rfl, by decide +kernel, rfl, by decide +kernel, by decide +kernel⟩
theorem cutInts (ns : List Int) (lo hi : Option Int) : ∃ ms : List Int, cutV (ns.map V.int) lo hi = ms.map V.int ∧ ms.length ≤ ns.length ∧ ∀ z ∈ ms, z ∈ ns := by
  unfold cutV
  rw [← List.map_drop, ← List.map_take]
  refine ⟨_, rfl, ?_, fun z hz => List.mem_of_mem_drop (List.mem_of_mem_take hz)⟩
  rw [List.length_take, List.length_drop]
  omega
theorem slI {b : Addr} {ns : List Int} {lo hi : Option Int} {K : PySem.W.Frag} {H : Hp} {Q : VK} (h : H b = some (.lst (ns.map V.int))) (k : ∀ (p : Addr) (ms : List Int), H p = none → ms.length ≤ ns.length → (∀ z ∈ ms, z ∈ ns) → Q (.ref p) (upd H p (.lst (ms.map V.int)))) : rSlL K (.ref b) lo hi H Q := by
  obtain ⟨ms, e, l1, b1⟩ := cutInts ns lo hi
  exact ⟨b, _, rfl, SqL.of h, fun p hp => by
    rw [e]
    exact k p ms hp l1 b1⟩
theorem catI {a b : Addr} {ns ms : List Int} {H : Hp} {Q : VK} (h1 : H a = some (.lst (ns.map V.int))) (h2 : H b = some (.lst (ms.map V.int))) (hz : ns.length + ms.length ≤ 1000) (k : ∀ (p : Addr), H p = none → Q (.ref p) (upd H p (.lst ((ns ++ ms).map V.int)))) : rCat (.ref a) (.ref b) H Q :=
  ⟨a, b, _, _, rfl, rfl, h1, h2, by rw [List.length_map, List.length_map]; exact Nat.le_trans hz (by decide), fun p hp => by
    rw [← List.map_append]
    exact k p hp⟩
/-- a row somehow corrected -/
def spCorr : Sp := fun vs H Q _ => ∃ (d l r : Addr) (A : Int) (ns : List Int), vs = [.ref d, .int A, .ref r] ∧ DealAt H d l ∧ H r = some (.tup (ns.map V.int)) ∧ ¬ dl d l r ∧ 0 < A ∧ A ≤ 1000 ∧ ns.length ≤ 50 ∧ (∀ z ∈ ns, 0 ≤ z ∧ z < A) ∧
  ∀ (H' : Hp) (p : Addr) (ms : List Int), DealAt H' d l → SB d l H H' → H p = none → H' p = some (.tup (ms.map V.int)) → ms.length ≤ 200 → (∀ z ∈ ms, 0 ≤ z ∧ z < A) → Q (.ref p) H'
/-- ints at an address: within bounds, few, new behind H -/
structure Ints (H U : Hp) (A : Int) (n : Nat) (p : Addr) (ms : List Int) : Prop where
  h : U p = some (.lst (ms.map V.int))
  f : H p = none
  l : ms.length ≤ n
  b : ∀ z ∈ ms, 0 ≤ z ∧ z < A
section
variable {P : Program} {w : World} {K : PySem.W.Frag} {mg : Str → Option Value} {base : Heap}
theorem ok_corr {f fa fr : Addr} {fd fda fdr : FuncData} (A0 : Df K mg "_law_corrected" s_law_corrected f fd P_law_corrected) (d_law_any : Df K mg "_law_any" s_law_any fa fda P_law_any) (d_law_row : Df K mg "_law_row" s_law_row fr fdr P_law_row) (T : Txt mg) : FnOk P w K mg base CX0 3 f fd P_law_corrected spCorr := by
  have G_law_any : FnOk P w K mg base CX0 1 fa fda P_law_any spAny := ok_any d_law_any T
  have G_law_row : FnOk P w K mg base CX0 2 fr fdr P_law_row spRow := ok_row d_law_row d_law_any T
  refine A0.F.ok sc_law_corrected (fun vs H Q E h => ?_) (fun cdv Ar outer s H vs Q E hr h => ?_)
  · obtain ⟨d, l, r, A, ns, rfl, _⟩ := h
    rfl
  · obtain ⟨d, l, r, A, ns, rfl, D, hrr, nr, a0, a1, nl, nb, k⟩ := h
    refine ⟨_, (pss_cons (ps_par3 (i := 3) (j := 4) (l := 5) rfl sc_law_corrected.nd rfl rfl rfl (by decide) (by decide) (by decide) rfl rfl rfl (pa_cons (pe_call G_law_any (hr.mono (by decide)) rfl d_law_any.g d_law_any.F.kp d_law_any.b .nil pass0 (pa_cons (pv 0) (pa_cons pe_int pa_nil))) (pa_cons (pe_call G_law_any (hr.mono (by decide)) rfl d_law_any.g d_law_any.F.kp d_law_any.b .nil pass0 (pa_cons (pv 0) (pa_cons (pe_op op_add (pe_callB call_len_seq (by rfl) T.len PySem.boot_len (pa_cons (pv 2) pa_nil)) pe_int) pa_nil))) (pa_cons (pe_callTy call_list_of (by rfl) T.list (by decide +kernel) (pa_cons (pv 2) pa_nil)) pa_nil))) rfl)
    (pss_cons (ps_if (pt_cmpR op_eq (pv 3) pe_int (nomark _)) (pss_one (ps_ret (pe_tupleOf (by rfl) T.tuple (pe_op op_cat (pe_op op_cat (pe_slice sl_list (pv 5) po_none (po_some (pv 4))) (pe_lst (pa_cons (pe_call G_law_any (hr.mono (by decide)) rfl d_law_any.g d_law_any.F.kp d_law_any.b .nil pass0 (pa_cons (pv 0) (pa_cons (pv 1) pa_nil))) pa_nil))) (pe_slice sl_list (pv 5) (po_some (pe_op op_add (pv 4) pe_int)) po_none))))) pss_nil)
    (pss_cons (ps_if (pt_cmpR op_eq (pv 3) pe_int (nomark _)) (pss_one (ps_ret (pe_tupleOf (by rfl) T.tuple (pe_op op_cat (pe_slice sl_list (pv 5) po_none (po_some (pv 4))) (pe_slice sl_list (pv 5) (po_some (pe_op op_add (pv 4) pe_int)) po_none))))) pss_nil)
    (pss_cons (ps_if (pt_cmpR op_eq (pv 3) pe_int (nomark _)) (pss_one (ps_ret (pe_tupleOf (by rfl) T.tuple (pe_op op_cat (pe_op op_cat (pe_slice sl_list (pv 5) po_none (po_some (pv 4))) (pe_lst (pa_cons (pe_call G_law_any (hr.mono (by decide)) rfl d_law_any.g d_law_any.F.kp d_law_any.b .nil pass0 (pa_cons (pv 0) (pa_cons (pv 1) pa_nil))) pa_nil))) (pe_slice sl_list (pv 5) (po_some (pv 4)) po_none))))) pss_nil)
    (pss_cons (ps_if (pt_cmpR op_eq (pv 3) pe_int (nomark _)) (pss_one (ps_ret (pe_tupleOf (by rfl) T.tuple (pe_op op_cat (pe_op op_cat (pe_slice sl_list (pv 5) po_none (po_some (pv 4))) (pe_revL (pe_slice sl_list (pv 5) (po_some (pv 4)) (po_some (pe_op op_add (pv 4) pe_int))))) (pe_slice sl_list (pv 5) (po_some (pe_op op_add (pv 4) pe_int)) po_none))))) pss_nil)
    (pss_one (ps_ret (pe_call G_law_row (hr.mono (by decide)) rfl d_law_row.g d_law_row.F.kp d_law_row.b .nil pass0 (pa_cons (pv 0) (pa_cons (pv 1) (pa_cons (pe_call G_law_any (hr.mono (by decide)) rfl d_law_any.g d_law_any.F.kp d_law_any.b .nil pass0 (pa_cons (pv 0) (pa_cons pe_int pa_nil))) pa_nil))))))))))), ?_⟩
    refine ⟨_, rfl, d, l, 5, rfl, by decide, by decide, D, fun H1 fm D1 S1 f0 f1 => ?_⟩
    have r1 := S1.kp.get nr hrr
    refine ⟨_, rfl, _, rfl, r, _, rfl, .inr (SqT.of r1), _, _, rfl, rfl, d, l, _, rfl, by rw [List.length_map]; omega, by rw [List.length_map]; omega, D1, fun H2 at_ D2 S2 a00 a01 => ?_⟩
    rw [List.length_map] at a01
    obtain ⟨j, rfl⟩ : ∃ j : Nat, at_ = (j : Int) := ⟨at_.toNat, by omega⟩
    have r2 := S2.kp.get nr r1
    refine ⟨_, rfl, r, _, rfl, .inr (SqT.of r2), fun b hb => ⟨_, _, _, rfl, ?_⟩⟩
    have nb0 : ¬ dl d l b := D2.free hb
    have D3 := D2.new (o := HO.lst (ns.map V.int)) hb
    have S3 : SB d l H _ := (S1.trans S2).trans (SB.new (o := HO.lst (ns.map V.int)) hb)
    obtain ⟨H3, e3⟩ : ∃ U, U = upd H2 b (HO.lst (ns.map V.int)) := ⟨_, rfl⟩
    have b3 : H3 b = some (.lst (ns.map V.int)) := by
      rw [e3]
      exact upd_same
    rw [← e3] at D3 S3 ⊢
    -- a tuple of a list
    have fin : ∀ (U : Hp) (p : Addr) (ms : List Int), DealAt U d l → SB d l H3 U → U p = some (.lst (ms.map V.int)) → ms.length ≤ 200 → (∀ z ∈ ms, 0 ≤ z ∧ z < A) → kTup K (.ref p) U Q := fun U p ms DU SU hp hl hb => .inl ⟨p, _, rfl, SqL.of hp, fun t ht => k _ t ms (DU.new ht) ((S3.trans SU).trans (SB.new ht)) ((S3.trans SU).kp.free (DU.free ht) ht) upd_same hl hb⟩
    refine ⟨_, rfl, rfl, _, rfl, ?_⟩
    by_cases e0 : fm = 0
    · rw [decide_eq_true (show V.int fm = V.int 0 by rw [e0])]
      refine iteT ?_
      refine ⟨_, rfl, _, rfl, (j : Int), rfl, slI b3 fun p1 m1 h1 l1 c1 => ?_⟩
      have D4 := D3.new (o := HO.lst (m1.map V.int)) h1
      have S4 : SB d l H3 _ := SB.new (o := HO.lst (m1.map V.int)) h1
      refine ⟨_, rfl, _, rfl, d, l, A, rfl, a0, by omega, D4, fun H5 z D5 S5 z0 z1 => ⟨by show 1 ≤ sizeLine; decide, fun p2 h2 => ?_⟩⟩
      have D6 := D5.new (o := HO.lst [V.int z]) h2
      have k4 : ∀ (q : Addr) (o : HO), ¬ dl d l q → upd H3 p1 (HO.lst (m1.map V.int)) q = some o → upd H5 p2 (HO.lst [V.int z]) q = some o := fun q o nq h => (SB.new h2).kp.get nq (S5.kp.get nq h)
      have S6 := (S4.trans S5).trans (SB.new (o := HO.lst [V.int z]) h2)
      have np1 := D3.free h1
      have w1 := k4 p1 _ np1 upd_same
      refine catI (ns := m1) (ms := [z]) w1 upd_same (by show m1.length + 1 ≤ 1000; omega) fun p3 h3 => ?_
      have D7 := D6.new (o := HO.lst ((m1 ++ [z]).map V.int)) h3
      have S7 := S6.trans (SB.new (o := HO.lst ((m1 ++ [z]).map V.int)) h3)
      have b7 := S7.kp.get nb0 b3
      refine ⟨_, rfl, _, rfl, _, _, rfl, rfl, _, rfl, noPart (slI b7 fun p4 m4 h4 l4 c4 => ?_)⟩
      have D8 := D7.new (o := HO.lst (m4.map V.int)) h4
      have S8 := S7.trans (SB.new (o := HO.lst (m4.map V.int)) h4)
      have w3 := (SB.new (d := d) (l := l) (o := HO.lst (m4.map V.int)) h4).kp.get (D6.free h3) upd_same
      refine catI (ns := m1 ++ [z]) (ms := m4) w3 upd_same (by rw [List.length_append]; show m1.length + 1 + m4.length ≤ 1000; omega) fun p5 h5 => ?_
      refine fin _ p5 _ (D8.new h5) (S8.trans (SB.new h5)) upd_same (by rw [List.length_append, List.length_append]; show m1.length + 1 + m4.length ≤ 200; omega) fun y hy => ?_
      rcases List.mem_append.mp hy with hy | hy
      · rcases List.mem_append.mp hy with hy | hy
        · exact nb y (c1 y hy)
        · rw [List.mem_singleton.mp hy]
          exact ⟨z0, z1⟩
      · exact nb y (c4 y hy)
    · rw [decide_eq_false (show ¬ V.int fm = V.int 0 from fun e => e0 (by injection e))]
      refine iteF ?_
      refine ⟨_, rfl, rfl, _, rfl, ?_⟩
      by_cases e1 : fm = 1
      · rw [decide_eq_true (show V.int fm = V.int 1 by rw [e1])]
        refine iteT ?_
        refine ⟨_, rfl, _, rfl, (j : Int), rfl, slI b3 fun p1 m1 h1 l1 c1 => ?_⟩
        have D4 := D3.new (o := HO.lst (m1.map V.int)) h1
        have S4 : SB d l H3 _ := SB.new (o := HO.lst (m1.map V.int)) h1
        have b4 := S4.kp.get nb0 b3
        refine ⟨_, rfl, _, rfl, _, _, rfl, rfl, _, rfl, noPart (slI b4 fun p4 m4 h4 l4 c4 => ?_)⟩
        have D8 := D4.new (o := HO.lst (m4.map V.int)) h4
        have S8 := S4.trans (SB.new (o := HO.lst (m4.map V.int)) h4)
        have w3 := (SB.new (d := d) (l := l) (o := HO.lst (m4.map V.int)) h4).kp.get (D3.free h1) upd_same
        refine catI (ns := m1) (ms := m4) w3 upd_same (by omega) fun p5 h5 => ?_
        refine fin _ p5 _ (D8.new h5) (S8.trans (SB.new h5)) upd_same (by rw [List.length_append]; omega) fun y hy => ?_
        rcases List.mem_append.mp hy with hy | hy
        · exact nb y (c1 y hy)
        · exact nb y (c4 y hy)
      · rw [decide_eq_false (show ¬ V.int fm = V.int 1 from fun e => e1 (by injection e))]
        refine iteF ?_
        refine ⟨_, rfl, rfl, _, rfl, ?_⟩
        by_cases e2 : fm = 2
        · rw [decide_eq_true (show V.int fm = V.int 2 by rw [e2])]
          refine iteT ?_
          refine ⟨_, rfl, _, rfl, (j : Int), rfl, slI b3 fun p1 m1 h1 l1 c1 => ?_⟩
          have D4 := D3.new (o := HO.lst (m1.map V.int)) h1
          have S4 : SB d l H3 _ := SB.new (o := HO.lst (m1.map V.int)) h1
          refine ⟨_, rfl, _, rfl, d, l, A, rfl, a0, by omega, D4, fun H5 z D5 S5 z0 z1 => ⟨by show 1 ≤ sizeLine; decide, fun p2 h2 => ?_⟩⟩
          have D6 := D5.new (o := HO.lst [V.int z]) h2
          have k4 : ∀ (q : Addr) (o : HO), ¬ dl d l q → upd H3 p1 (HO.lst (m1.map V.int)) q = some o → upd H5 p2 (HO.lst [V.int z]) q = some o := fun q o nq h => (SB.new h2).kp.get nq (S5.kp.get nq h)
          have S6 := (S4.trans S5).trans (SB.new (o := HO.lst [V.int z]) h2)
          have np1 := D3.free h1
          have w1 := k4 p1 _ np1 upd_same
          refine catI (ns := m1) (ms := [z]) w1 upd_same (by show m1.length + 1 ≤ 1000; omega) fun p3 h3 => ?_
          have D7 := D6.new (o := HO.lst ((m1 ++ [z]).map V.int)) h3
          have S7 := S6.trans (SB.new (o := HO.lst ((m1 ++ [z]).map V.int)) h3)
          have b7 := S7.kp.get nb0 b3
          refine ⟨_, rfl, _, rfl, _, rfl, noPart (slI b7 fun p4 m4 h4 l4 c4 => ?_)⟩
          have D8 := D7.new (o := HO.lst (m4.map V.int)) h4
          have S8 := S7.trans (SB.new (o := HO.lst (m4.map V.int)) h4)
          have w3 := (SB.new (d := d) (l := l) (o := HO.lst (m4.map V.int)) h4).kp.get (D6.free h3) upd_same
          refine catI (ns := m1 ++ [z]) (ms := m4) w3 upd_same (by rw [List.length_append]; show m1.length + 1 + m4.length ≤ 1000; omega) fun p5 h5 => ?_
          refine fin _ p5 _ (D8.new h5) (S8.trans (SB.new h5)) upd_same (by rw [List.length_append, List.length_append]; show m1.length + 1 + m4.length ≤ 200; omega) fun y hy => ?_
          rcases List.mem_append.mp hy with hy | hy
          · rcases List.mem_append.mp hy with hy | hy
            · exact nb y (c1 y hy)
            · rw [List.mem_singleton.mp hy]
              exact ⟨z0, z1⟩
          · exact nb y (c4 y hy)
        · rw [decide_eq_false (show ¬ V.int fm = V.int 2 from fun e => e2 (by injection e))]
          refine iteF ?_
          refine ⟨_, rfl, rfl, _, rfl, ?_⟩
          by_cases e3 : fm = 3
          · rw [decide_eq_true (show V.int fm = V.int 3 by rw [e3])]
            refine iteT ?_
            refine ⟨_, rfl, _, rfl, (j : Int), rfl, slI b3 fun p1 m1 h1 l1 c1 => ?_⟩
            have D4 := D3.new (o := HO.lst (m1.map V.int)) h1
            have S4 : SB d l H3 _ := SB.new (o := HO.lst (m1.map V.int)) h1
            have b4 := S4.kp.get nb0 b3
            refine ⟨_, rfl, _, rfl, _, rfl, _, rfl, _, _, rfl, rfl, _, rfl, slI b4 fun p2 m2 h2 l2 c2 => ?_⟩
            have D5 := D4.new (o := HO.lst (m2.map V.int)) h2
            refine ⟨p2, _, rfl, SqL.of upd_same, fun p3 h3 => ?_⟩
            rw [← List.map_reverse]
            have D6 := D5.new (o := HO.lst (m2.reverse.map V.int)) h3
            have S6 := (S4.trans (SB.new (o := HO.lst (m2.map V.int)) h2)).trans (SB.new (o := HO.lst (m2.reverse.map V.int)) h3)
            have w1 := (SB.new (d := d) (l := l) (o := HO.lst (m2.reverse.map V.int)) h3).kp.get (D3.free h1) ((SB.new (d := d) (l := l) (o := HO.lst (m2.map V.int)) h2).kp.get (D3.free h1) upd_same)
            refine catI (ns := m1) (ms := m2.reverse) w1 upd_same (by rw [List.length_reverse]; omega) fun p5 h5 => ?_
            have D7 := D6.new (o := HO.lst ((m1 ++ m2.reverse).map V.int)) h5
            have S7 := S6.trans (SB.new (o := HO.lst ((m1 ++ m2.reverse).map V.int)) h5)
            have b7 := S7.kp.get nb0 b3
            refine ⟨_, rfl, _, rfl, _, _, rfl, rfl, _, rfl, noPart (slI b7 fun p6 m6 h6 l6 c6 => ?_)⟩
            have D8 := D7.new (o := HO.lst (m6.map V.int)) h6
            have S8 := S7.trans (SB.new (o := HO.lst (m6.map V.int)) h6)
            have w3 := (SB.new (d := d) (l := l) (o := HO.lst (m6.map V.int)) h6).kp.get (D6.free h5) upd_same
            have ln : (m1 ++ m2.reverse).length = m1.length + m2.length := by rw [List.length_append, List.length_reverse]
            refine catI (ns := m1 ++ m2.reverse) (ms := m6) w3 upd_same (by omega) fun p7 h7 => ?_
            refine fin _ p7 _ (D8.new h7) (S8.trans (SB.new h7)) upd_same (by rw [List.length_append]; omega) fun y hy => ?_
            rcases List.mem_append.mp hy with hy | hy
            · rcases List.mem_append.mp hy with hy | hy
              · exact nb y (c1 y hy)
              · exact nb y (c2 y (List.mem_reverse.mp hy))
            · exact nb y (c6 y hy)
          · rw [decide_eq_false (show ¬ V.int fm = V.int 3 from fun e => e3 (by injection e))]
            refine iteF ?_
            refine ⟨_, rfl, _, rfl, _, rfl, d, l, 4, rfl, by decide, by decide, D3, fun H4 n D4 S4 n0 n1 => ⟨d, l, A, n, rfl, a0, a1, n0, by omega, D4, fun H5 p ms D5 S5 f5 p5 pl pb => ?_⟩⟩
            exact k H5 p ms D5 ((S3.trans S4).trans S5) (((S3.trans S4).kp.free (D4.free f5) f5)) p5 (by omega) pb
end
end Lk

set_option Elab.async false
set_option linter.all false
set_option maxRecDepth 100000
set_option maxHeartbeats 4000000
namespace Lk
open PySem L2
abbrev s_law_due : Stmt := top 40
abbrev N_law_due : List Str := ["steps", "now", "row", "other", "last", "found", "state", "to"]
abbrev P_law_due : List Str := ["steps", "now", "row", "other", "last"]
theorem sc_law_due : FnScope N_law_due P_law_due (defScope s_law_due) := ⟨rfl, rfl, rfl, by decide +kernel, rfl, by decide +kernel, by decide +kernel⟩
theorem inV_ints (t : Int) : ∀ ks : List Int, inV (.int t) (ks.map V.int) = decide (t ∈ ks)
  | [] => rfl
  | k :: ks => by
    have e := inV_ints t ks
    unfold inV at e ⊢
    rw [List.map_cons, List.any_cons, e]
    show (decide (k = t) || decide (t ∈ ks)) = _
    by_cases h : t = k
    · rw [decide_eq_true (show k = t by rw [h]), decide_eq_true (show t ∈ k :: ks by rw [h]; exact List.mem_cons_self)] <;> rfl
    · rw [decide_eq_false (show ¬ k = t from fun q => h q.symm), Bool.false_or]
      refine decide_eq_decide.mpr ⟨fun q => List.mem_cons_of_mem _ q, fun q => ?_⟩
      rcases List.mem_cons.mp q with q | q
      · exact absurd q h
      · exact q
theorem flat_ints : ∀ ks : List Int, (ks.map V.int).all flatV = true
  | [] => rfl
  | _ :: ks => flat_ints ks
theorem lt_of_le_nd : ∀ {ks : List Int}, ks.Pairwise (· ≤ ·) → ks.Nodup → ks.Pairwise (· < ·)
  | [], _, _ => .nil
  | k :: ks, h, n => by
    obtain ⟨h1, h2⟩ := List.pairwise_cons.mp h
    obtain ⟨n1, n2⟩ := List.nodup_cons.mp n
    exact List.pairwise_cons.mpr ⟨fun y hy => by
      have := h1 y hy
      have : k ≠ y := fun e => n1 (e ▸ hy)
      omega, lt_of_le_nd h2 n2⟩
theorem effs_get {rs : List (List Int)} {ns : List Int} {i : Nat} (h : i < rs.length) : (effs rs ns)[i]? = some (led rs (i : Int) ns) := by
  unfold effs
  rw [List.getElem?_map, List.getElem?_range h] <;> rfl
/-- the ends that are due: what should stand where now stands -/
def spDue : Sp := fun vs H Q _ => ∃ (a r o l : Addr) (now : Int) (A : Nat) (ts : List (Addr × List Int)) (ns ms zs : List Int), vs = [.ref a, .int now, .ref r, .ref o, .ref l] ∧ GridAt H a ts ∧ RowsOk A ts ∧ ts.length ≤ 60 ∧ H r = some (.tup (ns.map V.int)) ∧ H o = some (.tup (ms.map V.int)) ∧ H l = some (.tup (zs.map V.int)) ∧
  ns.length ≤ 300 ∧ ms.length ≤ 300 ∧ zs.length ≤ 300 ∧ (∀ c ∈ ns, 0 ≤ c ∧ c < (A : Int)) ∧ (∀ c ∈ ms, 0 ≤ c ∧ c < (A : Int)) ∧ (∀ c ∈ zs, 0 ≤ c ∧ c < (A : Int)) ∧
  ∀ (H' : Hp) (p : Addr) (ks : List Int), Same H H' → H p = none → H' p = some (.tup (ks.map V.int)) → ks.Pairwise (· < ·) → ks.length ≤ 60 → (∀ k, k ∈ ks ↔ Should (effs (rsOf ts) (ns ++ zs)) (effs (rsOf ts) (ms ++ zs)) now k) → Q (.ref p) H'
section
variable {P : Program} {w : World} {K : PySem.W.Frag} {mg : Str → Option Value} {base : Heap}
theorem ok_due {f fl : Addr} {fd fdl : FuncData} (A0 : Df K mg "_law_due" s_law_due f fd P_law_due) (d_law_led : Df K mg "_law_led" s_law_led fl fdl P_law_led) (zsorted : mg "sorted" = none) (T : Txt mg) : FnOk P w K mg base CX0 2 f fd P_law_due spDue := by
  have G_law_led : FnOk P w K mg base CX0 1 fl fdl P_law_led (spLed K) := ok_led d_law_led T
  refine A0.F.ok sc_law_due (fun vs H Q E h => ?_) (fun cdv Ar outer s H vs Q E hr h => ?_)
  · obtain ⟨a, r, o, l, now, A, ts, ns, ms, zs, rfl, _⟩ := h
    rfl
  · obtain ⟨a, r, o, l, now, A, ts, ns, ms, zs, rfl, G, R, hl, hr1, ho, hl1, n1, n2, n3, b1, b2, b3, k⟩ := h
    refine ⟨_, (pss_cons (ps_set (i := 5) sc_law_due.nd rfl (Or.inl rfl) (pe_lst pa_nil))
    (pss_cons (ps_for PassesOwn.never rfl (pi_range1 rfl T.range (pa_cons (pe_callB call_len_seq (by rfl) T.len PySem.boot_len (pa_cons (pv 0) pa_nil)) pa_nil)) (pg_name (i := 6) sc_law_due.nd rfl (Or.inl rfl))
      (pss_cons (ps_set (i := 7) sc_law_due.nd rfl (Or.inl rfl) (pe_call G_law_led (hr.mono (by decide)) rfl d_law_led.g d_law_led.F.kp d_law_led.b .nil pass0 (pa_cons (pv 0) (pa_cons (pv 6) (pa_cons (pe_op op_catA (pv 3) (pv 4)) pa_nil)))))
      (pss_one (ps_if (PW.pt (pw_and (pt_cmpR op_eq (pe_call G_law_led (hr.mono (by decide)) rfl d_law_led.g d_law_led.F.kp d_law_led.b .nil pass0 (pa_cons (pv 0) (pa_cons (pv 6) (pa_cons (pe_op op_catA (pv 2) (pv 4)) pa_nil)))) (pv 1) (nomark _)) (pw_and1 (pt_cmpR op_notIn_seq (pv 7) (pv 5) (by with_unfolding_all rfl))))) (pss_one (ps_expr (pe_bm PySem.F.plainAttrs_list PySem.F.slot_list_append PySem.F.type_list_append mt_append (pv 5) (pa_cons (pv 7) pa_nil)))) pss_nil))))
    (pss_one (ps_ret (pe_tupleOf (by rfl) T.tuple (pe_callB cr_sorted (by rfl) zsorted (by decide +kernel) (pa_cons (pv 5) pa_nil))))))), ?_⟩
    have rl : (rsOf ts).length = ts.length := rsOf_len ts
    refine ⟨by decide, fun F hF => ?_⟩
    have S0 : Same H (upd H F (.lst [])) := Same.new hF
    refine ⟨_, rfl, a, _, rfl, .inl (SqL.of (S0 _ _ G.top)), ?_⟩
    rw [List.length_map]
    refine ⟨_, rfl, by omega, by omega, ?_⟩
    obtain ⟨fs, efs⟩ : ∃ fs, fs = effs (rsOf ts) (ns ++ zs) := ⟨_, rfl⟩
    obtain ⟨gs, egs⟩ : ∃ gs, gs = effs (rsOf ts) (ms ++ zs) := ⟨_, rfl⟩
    have f1 : ∀ i, i < ts.length → fs[i]? = some (led (rsOf ts) (i : Int) (ns ++ zs)) := fun i hi => by
      rw [efs]
      exact effs_get (by omega)
    have g1 : ∀ i, i < ts.length → gs[i]? = some (led (rsOf ts) (i : Int) (ms ++ zs)) := fun i hi => by
      rw [egs]
      exact effs_get (by omega)
    have lf : fs.length = ts.length := by
      rw [efs]
      unfold effs
      rw [List.length_map, List.length_range, rl]
    rw [← efs, ← egs] at k
    refine for_range (lo := 0) (n := ((ts.length : Int) - 0).toNat) (fun n σ H1 => (∃ v6 v7 : Option V, σ = [some (.ref a), some (.int now), some (.ref r), some (.ref o), some (.ref l), some (.ref F), v6, v7]) ∧ Same H H1 ∧ ∃ ks : List Int, H1 F = some (.lst (ks.map V.int)) ∧ ks.Nodup ∧ ks.length ≤ n ∧ ∀ v, v ∈ ks ↔ ∃ i, i < n ∧ fs[i]? = some now ∧ gs[i]? = some v) ⟨⟨none, none, rfl⟩, S0, [], upd_same, .nil, Nat.le_refl _, fun v => ⟨fun q => (by cases q), fun ⟨i, hi, _⟩ => absurd hi (Nat.not_lt_zero i)⟩⟩ ?_ ?_
    · rintro n σ H1 hn ⟨⟨v6, v7, rfl⟩, S1, ks, hk, nd, lk, mk⟩
      have hn2 : n < ts.length := by omega
      rw [show (0 : Int) + (n : Int) = (n : Int) by omega]
      refine ⟨_, rfl, _, rfl, _, rfl, _, rfl, catRow ⟨o, rfl, .inl (S1 _ _ ho)⟩ ⟨l, rfl, .inl (S1 _ _ hl1)⟩ (Nat.le_trans (show _ ≤ 600 by omega) (by decide)) fun H2 z2 S2 R2 => ?_⟩
      obtain ⟨p2, rfl, R2⟩ := R2
      refine ⟨a, p2, (n : Int), A, ts, ms ++ zs, rfl, G.same (S1.trans S2), R, by omega, by omega, RowAt.sq R2, fun c hc => (List.mem_append.mp hc).elim (b2 c) (b3 c), ?_⟩
      have S02 := S1.trans S2
      refine ⟨_, rfl, _, rfl, _, rfl, _, rfl, catRow ⟨r, rfl, .inl (S02 _ _ hr1)⟩ ⟨l, rfl, .inl (S02 _ _ hl1)⟩ (Nat.le_trans (show _ ≤ 600 by omega) (by decide)) fun H3 z3 S3 R3 => ?_⟩
      obtain ⟨p3, rfl, R3⟩ := R3
      have S03 := S02.trans S3
      have hk3 := S3 _ _ (S2 _ _ hk)
      refine ⟨a, p3, (n : Int), A, ts, ns ++ zs, rfl, G.same S03, R, by omega, by omega, RowAt.sq R3, fun c hc => (List.mem_append.mp hc).elim (b1 c) (b3 c), _, rfl, rfl, ?_⟩
      have fn := f1 n hn2
      have gn := g1 n hn2
      obtain ⟨x, ex⟩ : ∃ x, x = led (rsOf ts) (n : Int) (ns ++ zs) := ⟨_, rfl⟩
      obtain ⟨y, ey⟩ : ∃ y, y = led (rsOf ts) (n : Int) (ms ++ zs) := ⟨_, rfl⟩
      rw [← ex] at fn
      rw [← ey] at gn
      rw [← ex, ← ey]
      have stay : (x = now → y ∈ ks) → ∀ v, v ∈ ks ↔ ∃ i, i < n + 1 ∧ fs[i]? = some now ∧ gs[i]? = some v := fun hh v => (mk v).trans ⟨fun ⟨i, h1, h2⟩ => ⟨i, by omega, h2⟩, fun ⟨i, h1, h2, h3⟩ => by
        by_cases e : i = n
        · rw [e, fn] at h2
          rw [e, gn] at h3
          have e2 := Option.some.inj h3
          obtain ⟨j, q⟩ := (mk y).mp (hh (Option.some.inj h2))
          exact ⟨j, e2 ▸ q⟩
        · exact ⟨i, by omega, h2, h3⟩⟩
      by_cases e1 : x = now
      · refine ⟨true, congrArg V.bl (decide_eq_true (show V.int x = V.int now by rw [e1])), iteT ?_⟩
        refine ⟨_, rfl, _, rfl, F, _, rfl, .inl (SqL.of hk3), rfl, flat_ints _, ?_⟩
        by_cases e2 : y ∈ ks
        · refine ⟨false, congrArg V.bl (by rw [inV_ints, decide_eq_true e2] <;> rfl), iteF ⟨⟨_, _, rfl⟩, S03, ks, hk3, nd, by omega, stay fun _ => e2⟩⟩
        · refine ⟨true, congrArg V.bl (by rw [inV_ints, decide_eq_false e2] <;> rfl), iteT ?_⟩
          refine ⟨_, rfl, .inl ⟨rfl, _, SqL.of hk3⟩, _, rfl, F, ks.map V.int, V.int y, rfl, rfl, hk3, by rw [List.length_map]; exact Nat.lt_of_le_of_lt (show ks.length ≤ 60 by omega) (by decide), ?_⟩
          refine ⟨⟨_, _, rfl⟩, ((KP.same (S := fun _ => False) S03).mut hF).toSame, ks ++ [y], by rw [List.map_append]; exact upd_same, List.nodup_append.mpr ⟨nd, by simp, fun u hu v hv => by
            rw [List.mem_singleton.mp hv]
            exact fun e => e2 (e ▸ hu)⟩, by rw [List.length_append]; show ks.length + 1 ≤ n + 1; omega, fun v => ?_⟩
          rw [List.mem_append, mk, List.mem_singleton]
          constructor
          · rintro (⟨i, h1, h2⟩ | rfl)
            · exact ⟨i, by omega, h2⟩
            · exact ⟨n, by omega, by rw [fn, e1], gn⟩
          · rintro ⟨i, h1, h2, h3⟩
            by_cases e : i = n
            · rw [e, gn] at h3
              exact .inr (Option.some.inj h3).symm
            · exact .inl ⟨i, by omega, h2, h3⟩
      · exact ⟨false, congrArg V.bl (decide_eq_false (show ¬ V.int x = V.int now from fun q => e1 (by injection q))), iteF ⟨⟨_, _, rfl⟩, S03, ks, hk3, nd, by omega, stay fun q => absurd q e1⟩⟩
    · rintro σ H1 ⟨⟨v6, v7, rfl⟩, S1, ks, hk, nd, lk, mk⟩
      refine ⟨_, rfl, F, ks, rfl, SqL.of hk, by omega, fun ns' p hp1 hp2 hp => .inl ⟨p, _, rfl, SqL.of upd_same, fun t ht => ?_⟩⟩
      refine k _ t ns' ((S1.trans (Same.new (o := HO.lst (ns'.map V.int)) hp)).trans (Same.new ht)) ((S1.trans (Same.new hp)).free ht) upd_same (lt_of_le_nd hp2 (hp1.nodup_iff.mpr nd)) (by rw [hp1.length_eq]; omega) fun k => ?_
      rw [hp1.mem_iff, mk]
      exact ⟨fun ⟨i, _, h⟩ => ⟨i, h⟩, fun ⟨i, h⟩ => ⟨i, by have := (List.getElem?_eq_some_iff.mp h.1).1; omega, h⟩⟩
end
end Lk

set_option Elab.async false
set_option linter.all false
set_option maxRecDepth 100000
set_option maxHeartbeats 4000000
namespace Lk
open PySem L2
abbrev s_law_wrong : Stmt := top 42
abbrev N_law_wrong : List Str := ["deal", "commands", "row", "at"]
abbrev P_law_wrong : List Str := ["deal", "commands", "row"]
theorem sc_law_wrong : FnScope N_law_wrong P_law_wrong (defScope s_law_wrong) := ⟨rfl, rfl, rfl, by decide +kernel, rfl, by decide +kernel, by decide +kernel⟩
theorem cutTo {xs : List V} {n : Nat} : cutV xs none (some (n : Int)) = xs.take n := by
  have e1 : HT.sIx xs.length 0 none = 0 := rfl
  have e2 : HT.sIx xs.length xs.length (some (n : Int)) = min n xs.length := by
    show (if (n : Int) < 0 then ((n : Int) + ((xs.length : Nat) : Int)).toNat else min (n : Int).toNat xs.length) = _
    rw [if_neg (by omega), Int.toNat_natCast]
  unfold cutV
  rw [e1, e2, List.drop_zero, Nat.sub_zero]
  exact (List.take_eq_take_min ..).symm
theorem cutFrom {xs : List V} {n : Nat} : cutV xs (some (n : Int)) none = xs.drop n := by
  have e1 : HT.sIx xs.length xs.length none = xs.length := rfl
  have e2 : HT.sIx xs.length 0 (some (n : Int)) = min n xs.length := by
    show (if (n : Int) < 0 then ((n : Int) + ((xs.length : Nat) : Int)).toNat else min (n : Int).toNat xs.length) = _
    rw [if_neg (by omega), Int.toNat_natCast]
  unfold cutV
  rw [e1, e2]
  by_cases h : n ≤ xs.length
  · rw [Nat.min_eq_left h]
    exact List.take_of_length_le (by rw [List.length_drop]; exact Nat.le_refl _)
  · rw [Nat.min_eq_right (by omega), List.drop_of_length_le (Nat.le_refl _), List.drop_of_length_le (by omega)]
    exact List.take_nil
theorem sbS {d l : Addr} {H H' : Hp} (S : Same H H') : SB d l H H' := fun a o h _ _ => S a o h
/-- data that can be compared (an empty dict, or none of them) -/
def OkD (e : PyData) : Prop := e = .dict [] ∨ (PyData.canLay0 e = true ∧ PyData.depth e ≤ 5)
theorem lay_app : ∀ (xs ys : List PyData) (n : Nat), PyData.canLayAll0 xs = true → PyData.canLayAll0 ys = true → PyData.depthAll xs ≤ n → PyData.depthAll ys ≤ n → PyData.canLayAll0 (xs ++ ys) = true ∧ PyData.depthAll (xs ++ ys) ≤ n
  | [], _, _, _, h, _, k => ⟨h, k⟩
  | x :: xs, ys, n, h, h2, k, k2 => by
    have h' : (PyData.canLay0 x && PyData.canLayAll0 xs) = true := h
    have k' : max (PyData.depth x) (PyData.depthAll xs) ≤ n := k
    rw [Bool.and_eq_true] at h'
    obtain ⟨e1, e2⟩ := lay_app xs ys n h'.2 h2 (by omega) k2
    refine ⟨?_, ?_⟩
    · show (PyData.canLay0 x && PyData.canLayAll0 (xs ++ ys)) = true
      rw [h'.1, e1] <;> rfl
    · show max (PyData.depth x) (PyData.depthAll (xs ++ ys)) ≤ n
      omega
theorem okD_mid {ns ms : List Int} {e : PyData} (h : PyData.canLay0 e = true) (k : PyData.depth e ≤ 4) : OkD (.list (ns.map PyData.int ++ e :: ms.map PyData.int)) := by
  obtain ⟨a1, a2⟩ := lay_ints ns
  obtain ⟨b1, b2⟩ := lay_ints ms
  obtain ⟨c1, c2⟩ := lay_app (ns.map PyData.int) (e :: ms.map PyData.int) 4 a1 (by
    show (PyData.canLay0 e && PyData.canLayAll0 (ms.map PyData.int)) = true
    rw [h, b1] <;> rfl) (by omega) (by
    show max (PyData.depth e) (PyData.depthAll (ms.map PyData.int)) ≤ 4
    omega)
  refine .inr ⟨c1, ?_⟩
  show PyData.depthAll (ns.map PyData.int ++ e :: ms.map PyData.int) + 1 ≤ 5
  omega
/-- what is no row, and where -/
def spOdd : Sp := fun vs H Q _ => ∃ (d l r : Addr) (A : Int) (ns : List Int), vs = [.ref d, .int A, .ref r] ∧ DealAt H d l ∧ H r = some (.tup (ns.map V.int)) ∧ ¬ dl d l r ∧ 0 < A ∧ A ≤ 1000 ∧ ns.length ≤ 250 ∧ (∀ z ∈ ns, 0 ≤ z ∧ z < A) ∧
  ∀ (H' : Hp) (t : Addr) (v : V) (e : PyData) (k : Nat), DealAt H' d l → SB d l H H' → H t = none → H' t = some (.tup [v, .int (k : Int)]) → KDv d l H' v e → (itemsD e).length ≤ 300 → rowRes A e = some k → OkD e → k ≤ 250 → Q (.ref t) H'
section
variable {P : Program} {w : World} {K : PySem.W.Frag} {mg : Str → Option Value} {base : Heap}
theorem ok_odd {f fa fo : Addr} {fd fda fdo : FuncData} (A0 : Df K mg "_law_wrong" s_law_wrong f fd P_law_wrong) (d_law_any : Df K mg "_law_any" s_law_any fa fda P_law_any) (d_law_of : Df K mg "_law_of" s_law_of fo fdo P_law_of) (T : Txt mg) : FnOk P w K mg base CX0 3 f fd P_law_wrong spOdd := by
  have G_law_any : FnOk P w K mg base CX0 1 fa fda P_law_any spAny := ok_any d_law_any T
  have G_law_of : FnOk P w K mg base CX0 2 fo fdo P_law_of spOf := ok_of d_law_of d_law_any T
  refine A0.F.ok sc_law_wrong (fun vs H Q E h => ?_) (fun cdv Ar outer s H vs Q E hr h => ?_)
  · obtain ⟨d, l, r, A, ns, rfl, _⟩ := h
    rfl
  · obtain ⟨d, l, r, A, ns, rfl, D, hrr, nr, a0, a1, nl, nb, k⟩ := h
    refine ⟨_, (pss_cons (ps_if (pt_cmpR op_eq (pe_call G_law_any (hr.mono (by decide)) rfl d_law_any.g d_law_any.F.kp d_law_any.b .nil pass0 (pa_cons (pv 0) (pa_cons pe_int pa_nil))) pe_int (nomark _)) (pss_one (ps_ret (pe_tup (pa_cons (pe_call G_law_of (hr.mono (by decide)) rfl d_law_of.g d_law_of.F.kp d_law_of.b .nil pass0 (pa_cons (pv 0) (pa_cons (pe_lst (pa_cons pe_non (pa_cons pe_int (pa_cons pe_str (pa_cons pe_dnewK (pa_cons pe_bl pa_nil)))))) pa_nil))) (pa_cons pe_int pa_nil))))) pss_nil)
    (pss_cons (ps_set (i := 3) sc_law_wrong.nd rfl (Or.inl rfl) (pe_call G_law_any (hr.mono (by decide)) rfl d_law_any.g d_law_any.F.kp d_law_any.b .nil pass0 (pa_cons (pv 0) (pa_cons (pe_op op_add (pe_callB call_len_seq (by rfl) T.len PySem.boot_len (pa_cons (pv 2) pa_nil)) pe_int) pa_nil))))
    (pss_one (ps_ret (pe_tup (pa_cons (pe_op op_cat (pe_op op_cat (pe_callTy call_list_of (by rfl) T.list (by decide +kernel) (pa_cons (pe_slice sl_tupA (pv 2) po_none (po_some (pv 3))) pa_nil)) (pe_lst (pa_cons (pe_call G_law_of (hr.mono (by decide)) rfl d_law_of.g d_law_of.F.kp d_law_of.b .nil pass0 (pa_cons (pv 0) (pa_cons (pe_lst (pa_cons (pv 1) (pa_cons (pe_un un_neg pe_int) (pa_cons pe_non (pa_cons pe_bl (pa_cons pe_str (pa_cons (pe_tup (pa_cons pe_int pa_nil)) pa_nil))))))) pa_nil))) pa_nil))) (pe_callTy call_list_of (by rfl) T.list (by decide +kernel) (pa_cons (pe_slice sl_tupA (pv 2) (po_some (pv 3)) po_none) pa_nil))) (pa_cons (pv 3) pa_nil))))))), ?_⟩
    refine ⟨_, rfl, d, l, 4, rfl, by decide, by decide, D, fun H1 x D1 S1 x0 x1 => ⟨rfl, _, rfl, ?_⟩⟩
    have r1 := S1.kp.get nr hrr
    by_cases ex : x = 0
    · rw [decide_eq_true (show V.int x = V.int 0 by rw [ex])]
      refine iteT ⟨_, rfl, fun q hq => ⟨by show 5 ≤ sizeLine; decide, fun p hp => ?_⟩⟩
      have D2 := D1.new (o := HO.dK []) hq
      have D3 := D2.new (o := HO.lst [.non, .int 0, .str "0", .ref q, .bl true]) hp
      have S3 : SB d l H1 _ := (SB.new (o := HO.dK []) hq).trans (SB.new (o := HO.lst [.non, .int 0, .str "0", .ref q, .bl true]) hp)
      refine ⟨d, l, p, _, rfl, upd_same, D2.free hp, by show 0 < 5; decide, by show 5 ≤ 1000; decide, D3, fun H4 i v D4 S4 hv => ⟨by show 2 ≤ sizeLine; decide, fun t ht => ?_⟩⟩
      have S14 := S3.trans S4
      have q4 : H4 q = some (.dK []) := S4.kp.get (D1.free hq) (nk upd_same hp)
      have St : SB d l H4 _ := SB.new (o := HO.tup [v, .int 0]) ht
      have go : ∀ e : PyData, isS e = false → OkD e → KDv d l H4 v e → Q (.ref t) (upd H4 t (.tup [v, .int 0])) := fun e he ho hk => k _ t v e 0 (D4.new ht) ((S1.trans S14).trans St) ((S1.trans S14).kp.free (D4.free ht) ht) upd_same (hk.go St) ?_ (rowRes_no he) ho (Nat.zero_le _)
      · exact pick5 (P := fun v => (∀ e : PyData, isS e = false → OkD e → KDv d l H4 v e → Q (.ref t) (upd H4 t (.tup [v, .int 0]))) → Q (.ref t) (upd H4 t (.tup [v, .int 0]))) hv (fun g => g .none rfl (.inr ⟨rfl, by decide⟩) fun _ _ => .non) (fun g => g (.int 0) rfl (.inr ⟨rfl, Nat.zero_le _⟩) fun _ _ => .int 0) (fun g => g (.str "0") rfl (.inr ⟨by decide +kernel, Nat.zero_le _⟩) fun _ _ => .str _) (fun g => g (.dict []) rfl (.inl rfl) fun H' S' => .dct (S'.kp.get (D1.free hq) q4)) (fun g => g (.bool true) rfl (.inr ⟨rfl, Nat.zero_le _⟩) fun _ _ => .bl true) go
      · cases e with
        | none => exact Nat.zero_le _
        | int _ => exact Nat.zero_le _
        | bool _ => exact Nat.zero_le _
        | str _ => exact Nat.zero_le _
        | list _ => cases he
        | tuple _ => cases he
        | dict _ => exact Nat.zero_le _
    · rw [decide_eq_false (show ¬ V.int x = V.int 0 from fun e => ex (by injection e))]
      refine iteF ?_
      refine ⟨_, rfl, _, rfl, r, _, rfl, .inr (SqT.of r1), _, _, rfl, rfl, d, l, _, rfl, by rw [List.length_map]; omega, by rw [List.length_map]; omega, D1, fun H2 at_ D2 S2 a00 a01 => ?_⟩
      rw [List.length_map] at a01
      obtain ⟨j, rfl⟩ : ∃ j : Nat, at_ = (j : Int) := ⟨at_.toNat, by omega⟩
      have r2 := S2.kp.get nr r1
      refine ⟨_, rfl, _, rfl, (j : Int), rfl, rSlA_ok (SqT.of r2) fun H3 p3 S3 h3 => ?_⟩
      rw [cutTo, ← List.map_take] at h3
      refine ⟨p3, _, rfl, .inr h3, fun b hb => ?_⟩
      have S3b : SB d l H2 _ := (sbS S3).trans (SB.new (o := HO.lst ((ns.take j).map V.int)) hb)
      have D3 := (D2.same S3).new (o := HO.lst ((ns.take j).map V.int)) hb
      refine ⟨_, rfl, _, rfl, _, rfl, by show 1 ≤ sizeLine; decide, fun p4 h4 => ⟨by show 6 ≤ sizeLine; decide, fun p5 h5 => ?_⟩⟩
      have D4 := D3.new (o := HO.tup [V.int 0]) h4
      have D5 := D4.new (o := HO.lst [V.int A, V.int (-1), V.non, V.bl true, V.str "0", V.ref p4]) h5
      have S35 := (SB.new (d := d) (l := l) (o := HO.tup [V.int 0]) h4).trans (SB.new (d := d) (l := l) (o := HO.lst [V.int A, V.int (-1), V.non, V.bl true, V.str "0", V.ref p4]) h5)
      refine ⟨d, l, p5, _, rfl, upd_same, D4.free h5, by show 0 < 6; decide, by show 6 ≤ 1000; decide, D5, fun H6 i v D6 S6 hv => ⟨by show 1 ≤ sizeLine; decide, fun p6 h6 => ?_⟩⟩
      have S36 := S35.trans S6
      have p46 : H6 p4 = some (.tup [V.int 0]) := S6.kp.get (D3.free h4) (nk upd_same h5)
      have b6 := S36.kp.get ((D2.same S3).free hb) upd_same
      have D7 := D6.new (o := HO.lst [v]) h6
      have S37 := S36.trans (SB.new (d := d) (l := l) (o := HO.lst [v]) h6)
      have b7 := S37.kp.get ((D2.same S3).free hb) upd_same
      refine ⟨b, p6, _, [v], rfl, rfl, b7, upd_same, by rw [List.length_map, List.length_take]; exact Nat.le_trans (show min j ns.length + 1 ≤ 300 by omega) (by decide), fun p7 h7 => ?_⟩
      have D8 := D7.new (o := HO.lst ((ns.take j).map V.int ++ [v])) h7
      have S38 := S37.trans (SB.new (d := d) (l := l) (o := HO.lst ((ns.take j).map V.int ++ [v])) h7)
      have r8 := (S3b.trans S38).kp.get nr r2
      refine ⟨_, rfl, _, rfl, (j : Int), rfl, noPart (rSlA_ok (SqT.of r8) fun H9 p8 S9 h8 => ?_)⟩
      rw [cutFrom, ← List.map_drop] at h8
      refine ⟨p8, _, rfl, .inr h8, fun p9 h9 => ?_⟩
      have D9 := (D8.same S9).new (o := HO.lst ((ns.drop j).map V.int)) h9
      have S39 := (S38.trans (sbS S9)).trans (SB.new (d := d) (l := l) (o := HO.lst ((ns.drop j).map V.int)) h9)
      have q7 : (upd H9 p9 (HO.lst ((ns.drop j).map V.int))) p7 = some (HO.lst ((ns.take j).map V.int ++ [v])) := nk (S9 _ _ upd_same) h9
      refine ⟨p7, p9, _, _, rfl, rfl, q7, upd_same, by rw [List.length_append, List.length_map, List.length_map, List.length_take, List.length_drop]; exact Nat.le_trans (show min j ns.length + 1 + (ns.length - j) ≤ 300 by omega) (by decide), fun p10 h10 => ?_⟩
      obtain ⟨ys, eys⟩ : ∃ ys, ys = (ns.take j).map V.int ++ [v] ++ (ns.drop j).map V.int := ⟨_, rfl⟩
      rw [← eys]
      have D10 := D9.new (o := HO.lst ys) h10
      refine ⟨_, rfl, by show 2 ≤ sizeLine; decide, fun t ht => ?_⟩
      have S310 := (S39.trans (SB.new (d := d) (l := l) (o := HO.lst ys) h10)).trans (SB.new (d := d) (l := l) (o := HO.tup [.ref p10, .int (j : Int)]) ht)
      have SA := (S1.trans S2).trans (S3b.trans S310)
      have D11 := D10.new (o := HO.tup [.ref p10, .int (j : Int)]) ht
      have n10 := D9.free h10
      have q10 : (upd (upd (upd H9 p9 (HO.lst ((ns.drop j).map V.int))) p10 (HO.lst ys)) t (HO.tup [.ref p10, .int (j : Int)])) p10 = some (HO.lst ys) := nk upd_same ht
      have tk : (ns.take j).length = j := by
        rw [List.length_take]
        omega
      have go : ∀ e : PyData, isB A e = false → PyData.canLay0 e = true → PyData.depth e ≤ 4 → KDv d l (upd (upd (upd H9 p9 (HO.lst ((ns.drop j).map V.int))) p10 (HO.lst ys)) t (HO.tup [.ref p10, .int (j : Int)])) v e → Q (.ref t) (upd (upd (upd H9 p9 (HO.lst ((ns.drop j).map V.int))) p10 (HO.lst ys)) t (HO.tup [.ref p10, .int (j : Int)])) := fun e he h1 h2 hk => by
        refine k _ t (.ref p10) (.list ((ns.take j).map PyData.int ++ e :: (ns.drop j).map PyData.int)) j D11 SA ?_ upd_same (fun U SU => .lst (SU.kp.get n10 q10) ?_) ?_ ?_ (okD_mid h1 h2) (by omega)
        · exact ((S1.trans S2).trans (S3b.trans (S39.trans (SB.new (d := d) (l := l) (o := HO.lst ys) h10)))).kp.free (D10.free ht) ht
        · rw [eys, List.append_assoc]
          exact dvAll_append (dvAll_ints _) (.cons (hk U SU) (dvAll_ints _))
        · show ((ns.take j).map PyData.int ++ e :: (ns.drop j).map PyData.int).length ≤ 300
          rw [List.length_append, List.length_cons, List.length_map, List.length_map, List.length_take, List.length_drop]
          omega
        · show badV A ((ns.take j).map PyData.int ++ e :: (ns.drop j).map PyData.int) 0 = some j
          rw [badV_at he fun z hz => nb z (List.mem_of_mem_take hz), tk, Nat.zero_add]
      refine pick6 (P := fun v => (∀ e : PyData, isB A e = false → PyData.canLay0 e = true → PyData.depth e ≤ 4 → KDv d l _ v e → Q (.ref t) _) → Q (.ref t) _) hv (fun g => g (.int A) isB_self rfl (Nat.zero_le _) fun _ _ => .int A) (fun g => g (.int (-1)) ?_ rfl (Nat.zero_le _) fun _ _ => .int _) (fun g => g .none rfl rfl (Nat.zero_le _) fun _ _ => .non) (fun g => g (.bool true) rfl rfl (Nat.zero_le _) fun _ _ => .bl true) (fun g => g (.str "0") rfl (by decide +kernel) (Nat.zero_le _) fun _ _ => .str _) (fun g => g (.tuple [.int 0]) rfl rfl (by decide) fun U SU => ?_) go
      · show (decide ((0 : Int) ≤ -1) && decide ((-1 : Int) < A)) = false
        rw [decide_eq_false (by decide), Bool.false_and]
      · have n4 := D3.free h4
        have SS := ((((SB.new (d := d) (l := l) (o := HO.lst [v]) h6).trans (SB.new (d := d) (l := l) (o := HO.lst ((ns.take j).map V.int ++ [v])) h7)).trans (sbS S9)).trans (SB.new (d := d) (l := l) (o := HO.lst ((ns.drop j).map V.int)) h9)).trans ((SB.new (d := d) (l := l) (o := HO.lst ys) h10).trans (SB.new (d := d) (l := l) (o := HO.tup [.ref p10, .int (j : Int)]) ht))
        exact .tup (SU.kp.get n4 (SS.kp.get n4 p46)) (.cons (.int 0) .nil)
end
end Lk

set_option Elab.async false
set_option linter.all false
set_option maxRecDepth 100000
set_option maxHeartbeats 4000000
namespace Lk
open PySem PySem.Spec PyProof.Rows L2
section
variable {X : Cx} {CX : CXT} {k n : Nat} {f : Addr} {fd : FuncData} {ps ks : List Str} {sp : Sp} {E : L2.St → XK} {x : Str} {p pos : Pos} {e : Expr} {es : List Expr} {kws : List Keyword} {t tk : TA} {g : List Value → List Value → List Value} {gV : List V → List V → List V}
/-- f(e, .., k = v, ..), that may raise -/
def tKwP (sp : Sp) (gV : List V → List V → List V) (n m : Nat) (E : L2.St → XK) (t tk : TA) : TE := fun σ H Q => t σ H fun vs H1 => tk σ H1 fun zs H2 => vs.length = n ∧ zs.length = m ∧ sp (gV vs zs) H2 Q (E σ)
theorem pe_kwP (G : FnOk X.prog X.w X.K X.mg X.base CX k f fd ps sp) (room : Room k X.A) (gx : Gl X x) (mx : X.mg x = some (.ref f)) (kp : PySem.W.keepIn X.K (.ref f) = true) (bd : KBn X.K fd ps n ks g gV) (out : ∀ σ, PassesAt CX X σ (E σ)) (ha : PA X (e :: es) t) (args : PK X kws tk)
    (h1 : (backToKw pos (keywordEach kws X.env)).all (·.1.isSome) = true := by rfl) (h2 : (backToKw pos (keywordEach kws X.env)).filterMap (·.1) = ks := by rfl) (h3 : (x == ("__debug__" : Str)) = false := by decide)
    (he : starEach (e :: es) X.env = (false, eval e X.env) :: starEach es X.env := by rfl) (h4 : ((backTo pos (starEach (e :: es) X.env)).any (·.1) || (backToKw pos (keywordEach kws X.env)).any (·.1.isNone)) = false := by rfl) : PE X (.Call (.Name x p) (e :: es) kws pos) (tKwP sp gV n ks.length E t tk) := by
  refine ⟨fun pins s σ H Q I h => ?_⟩
  refine wpAny_Call_Name_kw (ld_glob I gx mx ?_ h3)
  refine PySem.W.callWith_KW (h₀ := X.base) I.ok.mod.kin kp h1 (thn (ha.run pos pins s σ H _ I h) fun us s1 ⟨vs, H1, I1, r, q⟩ => ?_) h4 he
  refine thn (args.run pos pins s1 σ H1 _ I1 q) fun ws s2 ⟨zs, H2, I2, rz, l1, l2, q2⟩ => ⟨I2.kIn, ?_⟩
  rw [h2]
  refine wpAny_call (codeAny_mono (G.run X.A X.stack s2 H2 ⟨us, ks.zip ws⟩ (g us ws) (gV vs zs) Q (E σ) room I2.env0 (bd.to _ us ws I2.kIn (r.length.symm.trans l1) (rz.length.symm.trans l2)) (bd.rel r rz) q2) fun r s3 q3 => ?_)
  match r, q3 with
  | .error e, q3 => exact out σ pins H2 s2 e s3 I2 q3
  | .ok (.ret u), q3 => exact I2.after q3
  | .ok .next, q3 => exact q3.elim
  | .ok .brk, q3 => exact q3.elim
  | .ok .cont, q3 => exact q3.elim
end
end Lk

set_option Elab.async false
set_option linter.all false
set_option maxRecDepth 100000
set_option maxHeartbeats 4000000
namespace Lk
open PySem L2
abbrev s_law_asked : Stmt := top 41
abbrev N_law_asked : List Str := ["machine", "now", "row", "other", "last", "told", "wrong"]
abbrev P_law_asked : List Str := ["machine", "now", "row", "other", "last"]
theorem sc_law_asked : FnScope N_law_asked P_law_asked (defScope s_law_asked) := ⟨rfl, rfl, rfl, by decide +kernel, rfl, by decide +kernel, by decide +kernel⟩
def rwP (k : Int) : PyData := .tuple [.str "row", .int k]
def refuP (k : Int) : PyData := .tuple [.str "refused", .int k]
def spAsk (CM : Addr) : Sp := fun vs H Q _ => ∃ (m : Addr) (n x y z : V) (dn dx dy dz : PyData) (A : Int) (us : List (Addr × List Int)), vs = [.ref m, n, x, y, z] ∧ MachAt CM H m A us ∧ MOk A us ∧ us.length ≤ 60 ∧ Dv H n dn ∧ Dv H x dx ∧ Dv H y dy ∧ Dv H z dz ∧ OkD dz ∧ (itemsD dx).length ≤ 300 ∧ (itemsD dy).length ≤ 300 ∧ (itemsD dz).length ≤ 300 ∧
  (isB (us.length : Int) dn = false → ∀ H' v, Same H H' → Dv H' v (refuP 0) → Q v H') ∧ (isB (us.length : Int) dn = true → match r3 A dx dy dz with
  | some k => ∀ H' v, Same H H' → Dv H' v (rwP k) → Q v H'
  | none => ∀ H' v (ns : List Int) b, Same H H' → Dv H' v (.tuple [.tuple (ns.map PyData.int), .bool b]) → ns.Pairwise (· < ·) → (∀ k, k ∈ ns ↔ Should (effs (rsOf us) (intsD dx ++ intsD dz)) (effs (rsOf us) (intsD dy ++ intsD dz)) (intD dn) k) → (b = true ↔ NoPair (effs (rsOf us) (intsD dx ++ intsD dz)) (effs (rsOf us) (intsD dy ++ intsD dz))) → Q v H')
mutual
theorem dv_dp {K : PySem.W.Frag} {H : Hp} : ∀ {v : V} {d : PyData}, Dv H v d → PyData.canLay0 d = true → Dp K H v d
  | _, _, .non, _ => .non
  | _, _, .bl b, _ => .bl b
  | _, _, .int i, _ => .int i
  | _, _, .str x, _ => .str x
  | _, _, .lst h t, e => .lst (SqL.of h) (dv_dpAll t e)
  | _, _, .tup h t, e => .tup (SqT.of h) (dv_dpAll t e)
  | _, _, .dct h, e => by cases e
theorem dv_dpAll {K : PySem.W.Frag} {H : Hp} : ∀ {vs : List V} {ds : List PyData}, DvAll H vs ds → PyData.canLayAll0 ds = true → DpAll K H vs ds
  | _, _, .nil, _ => .nil
  | _, _, .cons (d := d) (ds := ds) h t, e => by
    have e' : (PyData.canLay0 d && PyData.canLayAll0 ds) = true := e
    rw [Bool.and_eq_true] at e'
    exact .cons (dv_dp h e'.1) (dv_dpAll t e'.2)
end
theorem eqv_unit : ∀ {d : PyData}, PyData.eqv d (.tuple []) = true → d = .tuple []
  | .tuple [], _ => rfl
  | .tuple (_ :: _), h => by cases h
  | .none, h => by cases h
  | .bool _, h => by cases h
  | .int _, h => by cases h
  | .str _, h => by cases h
  | .list _, h => by cases h
  | .dict _, h => by cases h
theorem shaped_unit : SeqAt.shaped (.tuple []) = true := by decide +kernel
abbrev g5 {α : Type} (zs : List α) : List α := match zs with
  | [o, r, n, m, s] => [m, n, r, o, s]
  | _ => []
abbrev g3 {α : Type} (ls zs : List α) : List α := match zs with
  | [o, r, m] => [m, r, o] ++ ls
  | _ => []
def wA (K : PySem.W.Frag) (CW CR : Addr) (Q : VK) : WX := wAll K 6 (fun _ _ _ _ => False) { nx := fun _ H' => Q .non H', rt := Q } [(.ref CW, fun a cls d => tSeq (tRet (tTup (tCons (tC (.str "row")) (tCons (tByLow CW a cls d (tVar 6)) tNil)))) tNext), (.ref CR, fun a cls d => tSeq (tRet (tTup (tCons (tC (.str "refused")) (tCons (tByLow CR a cls d (tVar 6)) tNil)))) tNext)]
abbrev tyEq (K : PySem.W.Frag) : V → V → Hp → VK → Prop := fun x y H Q => rEqD K x y H Q ∨ rDT x y H Q
section
variable {P : Program} {w : World} {K : PySem.W.Frag} {mg : Str → Option Value} {base : Heap} {CM CW CR fW fR p0 pc : Addr} {kws kwc : List (Str × V)} {u1 u2 u3 : List Value → List Value → List Value} {ds : List Value}
theorem ok_asked {f fm fc : Addr} {fd fdm fdc : FuncData} (A0 : Df K mg "_law_asked" s_law_asked f fd P_law_asked) (d_m : DfD K mg "mended_states" s_mended_states kws fm fdm) (d_c : DfD K mg "can_be_mended" s_can_be_mended kwc fc fdc) (W0 : WTup K p0) (W1 : WTup K pc)
    (b_m : Binds K fdm P_mended_states ds) (v_m : Vals [V.ref p0] ds) (k_m : KBn K fdm P_mended_states 0 ["other", "row", "now", "machine", "since"] u1 (fun vs zs => g5 zs)) (k_c : KBn K fdc P_can_be_mended 0 ["other", "row", "machine"] u2 (fun vs zs => g3 [V.ref pc] zs)) (k_p : KBn K fdc P_can_be_mended 3 ["since"] u3 (fun vs zs => vs ++ zs))
    (G_m : FnOk P w K mg base (L2.CX P w) 9 fm fdm P_mended_states (spMended K CM CW CR)) (G_c : FnOk P w K mg base (L2.CX P w) 9 fc fdc P_can_be_mended (spCan K CM CW))
    (TW : PySem.ErrX.ErrTxt K mg "InvalidRow" "InvalidRow.__init__" CW fW) (TR : PySem.ErrX.ErrTxt K mg "Refused" "Refused.__init__" CR fR) (ne : PySem.W.exmOne K (.ref CR) (.ref CW) = some false) : FnOk P w K mg base CX0 10 f fd P_law_asked (spAsk CM) := by
  refine A0.F.ok sc_law_asked (fun vs H Q E h => ?_) (fun cdv Ar outer s H vs Q E hr h => ?_)
  · obtain ⟨m, n, x, y, z, dn, dx, dy, dz, A, us, rfl, _⟩ := h
    rfl
  · obtain ⟨m, n, x, y, z, dn, dx, dy, dz, A, us, rfl, M, O, u60, Dn, Dx, Dy, Dz, Oz, zx, zy, zz, kB, kR⟩ := h
    have hu : Ar.units + 3 + 64 < cLine := by have := hr.un; simp only [Around.deeper] at this; omega
    have hu1 : Ar.units + 3 < cLine := by omega
    refine ⟨_, pss_one (ps_try_all (i := 6) (n := "wrong") (tb := fun W => tSeq (tIfS (tTest (tOp (tyEq K) (tVar 4) (tTup tNil))) (tSeq (tAsg (tCallSD (spMended K CM CW CR) [V.ref p0] (WE W) (tCons (tVar 0) (tCons (tVar 1) (tCons (tVar 2) (tCons (tVar 3) tNil))))) (gName 5))
          (tSeq (tRet (tTup (tCons (tVar 5) (tCons (tKw (spCan K CM CW) (fun vs zs => g3 [V.ref pc] zs) 3 (WE W) (tCons (tVar 3) (tCons (tVar 2) (tCons (tVar 0) tNil)))) tNil)))) tNext)) tNext)
          (tSeq (tAsg (tKw (spMended K CM CW CR) (fun vs zs => g5 zs) 5 (WE W) (tCons (tVar 3) (tCons (tVar 2) (tCons (tVar 1) (tCons (tVar 0) (tCons (tVar 4) tNil)))))) (gName 5))
          (tSeq (tRet (tTup (tCons (tVar 5) (tCons (tKwP (spCan K CM CW) (fun vs zs => vs ++ zs) 3 1 (WE W) (tCons (tVar 0) (tCons (tVar 2) (tCons (tVar 3) tNil))) (tCons (tVar 4) tNil)) tNil)))) tNext)))
        (Wo := fun _ _ _ _ => False) (l := [(.ref CW, fun a cls d => tSeq (tRet (tTup (tCons (tC (.str "row")) (tCons (tByLow CW a cls d (tVar 6)) tNil)))) tNext), (.ref CR, fun a cls d => tSeq (tRet (tTup (tCons (tC (.str "refused")) (tCons (tByLow CR a cls d (tVar 6)) tNil)))) tNext)]) rfl rfl sc_law_asked.nd rfl rfl takes0
        (fun W pn xe tk _ => pss_cons (ps_if (pt_cmpR (opOr (op_eqD hu) (op_eq_dt hu1)) (pv 4) (pe_tup pa_nil) (nomark _)) (pss_cons (ps_set (i := 5) sc_law_asked.nd rfl (Or.inl rfl) (pe_callSD G_m hr rfl d_m.g d_m.F.kp b_m v_m (fun σ => passAt tk σ) (pa_cons (pv 0) (pa_cons (pv 1) (pa_cons (pv 2) (pa_cons (pv 3) pa_nil))))))
            (pss_one (ps_ret (pe_tup (pa_cons (pv 5) (pa_cons (by exact (pe_kw (ks := ["other", "row", "machine"]) G_c hr rfl d_c.g d_c.F.kp k_c (fun σ => passAt tk σ) (by exact (pk_cons (pv 3) (pk_cons (pv 2) (pk_cons (pv 0) pk_nil)))))) pa_nil)))))) pss_nil)
          (pss_cons (ps_set (i := 5) sc_law_asked.nd rfl (Or.inl rfl) (by exact (pe_kw (ks := ["other", "row", "now", "machine", "since"]) G_m hr rfl d_m.g d_m.F.kp k_m (fun σ => passAt tk σ) (by exact (pk_cons (pv 3) (pk_cons (pv 2) (pk_cons (pv 1) (pk_cons (pv 0) (pk_cons (pv 4) pk_nil)))))))))
          (pss_one (ps_ret (pe_tup (pa_cons (pv 5) (pa_cons (by exact (pe_kwP (ks := ["since"]) G_c hr rfl d_c.g d_c.F.kp k_p (fun σ => passAt tk σ) (by exact (pa_cons (pv 0) (pa_cons (pv 2) (pa_cons (pv 3) pa_nil)))) (by exact (pk_cons (pv 4) pk_nil)))) pa_nil)))))))
        (.cons ⟨rfl, by decide, Or.inl TW.gC⟩ (fun a oe cls d pn hz hf => pss_one (ps_ret (pe_tup (pa_cons pe_str (pa_cons (pe_byLow TW hz hf (pv 6)) pa_nil)))))
          (.cons ⟨rfl, by decide, Or.inl TR.gC⟩ (fun a oe cls d pn hz hf => pss_one (ps_ret (pe_tup (pa_cons pe_str (pa_cons (pe_byLow TR hz hf (pv 6)) pa_nil))))) .nil))), ?_⟩
    have sec : ∀ (W : WX) (σ : L2.St) (z1 : V) (H1 : Hp) (t : Addr) (ns : List Int), Same H H1 → DvK K H1 z1 dz → isB (us.length : Int) dn = true → r3 A dx dy dz = none → H1 t = some (.tup (ns.map V.int)) → ns.Pairwise (· < ·) → (∀ k, k ∈ ns ↔ Should (effs (rsOf us) (intsD dx ++ intsD dz)) (effs (rsOf us) (intsD dy ++ intsD dz)) (intD dn) k) →
        spCan K CM CW [.ref m, x, y, z1] H1 (fun v H2 => 2 ≤ sizeLine ∧ ∀ p, H2 p = none → Q (.ref p) (upd H2 p (.tup [.ref t, v]))) (WE W σ) := fun W σ z1 H1 t ns S1 D1 e1 e2 ht hp hm => by
      have kN := kR e1
      rw [e2] at kN
      refine ⟨m, x, y, z1, dx, dy, dz, A, us, rfl, M.same S1, O, Dx.same S1, Dy.same S1, D1, zx, zy, zz, ?_⟩
      rw [e2]
      exact fun H2 b S2 hb => ⟨by decide, fun p hp2 => kN _ _ ns b ((S1.trans S2).trans (Same.new hp2)) (.tup upd_same (.cons (.tup (nk (S2 _ _ ht) hp2) (dvAll_ints _)) (.cons (.bl b) .nil))) hp hm hb⟩
    have fst : ∀ (z1 : V) (H1 : Hp) (Qm : VK), Same H H1 → DvK K H1 z1 dz → (∀ H2 t (ns : List Int), Same H H2 → H2 t = some (.tup (ns.map V.int)) → ns.Pairwise (· < ·) → (∀ k, k ∈ ns ↔ Should (effs (rsOf us) (intsD dx ++ intsD dz)) (effs (rsOf us) (intsD dy ++ intsD dz)) (intD dn) k) → isB (us.length : Int) dn = true → r3 A dx dy dz = none → Same H1 H2 → Qm (.ref t) H2) →
        spMended K CM CW CR [.ref m, n, x, y, z1] H1 Qm (WE (wA K CW CR Q) [some (.ref m), some n, some x, some y, some z, none, none]) := fun z1 H1 Qm S1 D1 kQ => by
      refine ⟨m, n, x, y, z1, dn, dx, dy, dz, A, us, rfl, M.same S1, O, u60, Dn.same S1, Dx.same S1, Dy.same S1, D1, zx, zy, zz, fun e1 => ?_, fun e1 => ?_⟩
      · have kN := kB e1
        exact fun H' q S' hq => ⟨false, ne, iteF ⟨true, TR.te, iteT fun a ha => ⟨_, rfl, rfl, rfl, q, .int 0, rfl, upd_same, by show 2 ≤ sizeLine; decide, fun p hp => kN _ _ (((S1.trans S').trans (Same.new hq)).trans (Same.new hp)) (.tup upd_same (.cons (.str _) (.cons (.int _) .nil)))⟩⟩⟩
      · have kN := kR e1
        cases e2 : r3 A dx dy dz with
        | some k =>
          rw [e2] at kN
          exact fun H' q S' hq => ⟨true, TW.te, iteT fun a ha => ⟨_, rfl, rfl, rfl, q, .int k, rfl, upd_same, by show 2 ≤ sizeLine; decide, fun p hp => kN _ _ (((S1.trans S').trans (Same.new hq)).trans (Same.new hp)) (.tup upd_same (.cons (.str _) (.cons (.int _) .nil)))⟩⟩
        | none => exact fun H' t ns S' ht hp hm => kQ H' t ns (S1.trans S') ht hp hm e1 e2 S'
    refine ⟨_, rfl, by decide, fun q hq => ?_⟩
    have S1 : Same H (upd H q (.tup [])) := Same.new hq
    have M1 := M.same S1
    have yes : dz = .tuple [] → tSeq (tAsg (tCallSD (spMended K CM CW CR) [V.ref p0] (WE (wA K CW CR Q)) (tCons (tVar 0) (tCons (tVar 1) (tCons (tVar 2) (tCons (tVar 3) tNil))))) (gName 5))
          (tSeq (tRet (tTup (tCons (tVar 5) (tCons (tKw (spCan K CM CW) (fun vs zs => g3 [V.ref pc] zs) 3 (WE (wA K CW CR Q)) (tCons (tVar 3) (tCons (tVar 2) (tCons (tVar 0) tNil)))) tNil)))) tNext) { nx := fun _ H' => Q .non H', rt := Q } [some (.ref m), some n, some x, some y, some z, none, none] (upd H q (.tup [])) := fun e => by
      have D0 : DvK K (upd H q (.tup [])) (.ref p0) dz := .inr ⟨p0, rfl, W0, e⟩
      refine ⟨_, rfl, _, rfl, _, rfl, _, rfl, ?_⟩
      dsimp only [tNil, List.cons_append, List.nil_append]
      refine fst (.ref p0) _ _ S1 D0 fun H2 t ns S2 ht hp hm e1 e2 S12 => ?_
      refine ⟨_, rfl, _, rfl, _, rfl, _, rfl, rfl, sec _ _ (.ref pc) H2 t ns S2 (.inr ⟨pc, rfl, W1, e⟩) e1 e2 ht hp hm⟩
    have no : tSeq (tAsg (tKw (spMended K CM CW CR) (fun vs zs => g5 zs) 5 (WE (wA K CW CR Q)) (tCons (tVar 3) (tCons (tVar 2) (tCons (tVar 1) (tCons (tVar 0) (tCons (tVar 4) tNil)))))) (gName 5))
          (tSeq (tRet (tTup (tCons (tVar 5) (tCons (tKwP (spCan K CM CW) (fun vs zs => vs ++ zs) 3 1 (WE (wA K CW CR Q)) (tCons (tVar 0) (tCons (tVar 2) (tCons (tVar 3) tNil))) (tCons (tVar 4) tNil)) tNil)))) tNext) { nx := fun _ H' => Q .non H', rt := Q } [some (.ref m), some n, some x, some y, some z, none, none] (upd H q (.tup [])) := by
      refine ⟨_, rfl, _, rfl, _, rfl, _, rfl, _, rfl, rfl, fst z _ _ S1 (.inl (Dz.same S1)) fun H2 t ns S2 ht hp hm e1 e2 S12 => ?_⟩
      refine ⟨_, rfl, _, rfl, _, rfl, _, rfl, _, rfl, rfl, rfl, sec _ _ z H2 t ns S2 (.inl (Dz.same S2)) e1 e2 ht hp hm⟩
    rcases Oz with rfl | ⟨c1, c2⟩
    · cases Dz with
      | dct hd =>
        refine .inr ⟨_, q, [], rfl, rfl, nk hd hq, upd_same, ?_⟩
        exact ⟨false, rfl, iteF no⟩
    · refine .inl ⟨dz, .tuple [], dv_dp (Dz.same S1) c1, .tup (SqT.of upd_same) .nil, ?_, shaped_unit, _, rfl, ?_⟩
      · unfold SeqAt.shaped
        rw [c1, Bool.true_and]
        exact decide_eq_true (by omega)
      · cases e : PyData.eqv dz (.tuple []) with
        | true => exact iteT (yes (eqv_unit e))
        | false => exact iteF no
end
end Lk

set_option Elab.async false
set_option linter.all false
set_option maxRecDepth 100000
set_option maxHeartbeats 4000000
namespace Lk
open PySem L2
theorem out_never {P : Program} {w : World} {X : Cx} : ∀ σ, PassesAt (L2.CX P w) X σ ((fun _ => E0) σ) := fun _ _ _ _ _ _ _ ⟨_, _, _, _, _, _, _, _, _, _, _, _, he⟩ => he.elim
theorem Game.mok {CM : Addr} {H : Hp} {d l a m : Addr} {A : Nat} {ts us : List (Addr × List Int)} (g : Game CM H d l a m A ts us) : MOk (A : Int) us := by
  have h5 := g.A5
  have h0 := g.A0
  have e : us.length = ts.length := by rw [← rsOf_len us, g.e, rsOf_len]
  have hz := g.hz
  exact ⟨by omega, by omega, by omega, by rw [Int.toNat_natCast, g.e]; exact g.R.rs⟩
theorem toNx {D : Ends} {σ : St} {H : Hp} (h : D.nx σ H) : tNext D σ H := h
theorem norm {f : St → Hp → Prop} {σ σ' : St} {H : Hp} (e : σ = σ') (h : f σ' H) : f σ H := by
  rw [e]
  exact h
theorem normG {g : TG} {u : V} {σ σ' : St} {H : Hp} {f : St → Hp → Prop} (e : σ = σ') (h : g u σ' H f) : g u σ H f := by
  rw [e]
  exact h
theorem iteS {y z : Str} {A B : Prop} (e : y = z) (k : B) : if (!decide (V.str y = V.str z)) = true then A else B := by
  rw [e, decide_eq_true rfl]
  exact iteF k
/-- repr of a bool -/
def bStr (b : Bool) : Str := if b then "True" else "False"
def rReprB : List V → Hp → VK → Prop := fun xs H Q => ∃ b, xs = [.bl b] ∧ Q (.str (bStr b)) H
theorem call_reprB {X : Cx} : CallR X (.builtin "repr") rReprB := by
  intro pins s σ H xs us Q I r h
  obtain ⟨b, rfl, q⟩ := h
  obtain ⟨u, rfl, ru⟩ := Vals.one r
  cases ru
  refine PySem.P.repr_of_bool ⟨.str (bStr b), H, I.tok _, ?_, q⟩
  unfold bStr
  cases b
  · exact ⟨s.toks, rfl⟩
  · exact ⟨s.toks, rfl⟩
/-! ### what is told -/
def resP (ns : List Int) (b : Bool) : PyData := .tuple [.tuple (ns.map PyData.int), .bool b]
def intsP (ns : List Int) : PyData := .tuple (ns.map PyData.int)
inductive Told : PyData → Prop
  | tup (ns : List Int) (h : ∀ z ∈ ns, z.natAbs < 2 ^ 30) (hl : ns.length ≤ 10000) : Told (intsP ns)
  | res (ns : List Int) (b : Bool) (h : ∀ z ∈ ns, z.natAbs < 2 ^ 30) (hl : ns.length ≤ 10000) : Told (resP ns b)
  | row (k : Int) (h : k.natAbs < 2 ^ 30) : Told (rwP k)
  | refu : Told (refuP 0)
theorem Told.lay {d : PyData} (t : Told d) : PyData.canLay0 d = true := by
  cases t with
  | tup ns h hl => exact (lay_ints ns).1
  | res ns b h hl =>
    show (PyData.canLayAll0 (ns.map PyData.int) && (true && true)) = true
    rw [(lay_ints ns).1] <;> rfl
  | row k h =>
    show (PyData.canLay0 (.str "row") && (true && true)) = true
    rw [show PyData.canLay0 (.str "row") = true by decide +kernel] <;> rfl
  | refu => decide +kernel
theorem Told.dp {K : PySem.W.Frag} {H : Hp} {v : V} {d : PyData} (t : Told d) (x : Dv H v d) : Dp K H v d := dv_dp x t.lay
theorem Told.ref {H : Hp} {v : V} {d : PyData} (t : Told d) (x : Dv H v d) : ∃ a, v = .ref a := by
  cases t with
  | tup => cases x with | tup _ _ => exact ⟨_, rfl⟩
  | res => cases x with | tup _ _ => exact ⟨_, rfl⟩
  | row => cases x with | tup _ _ => exact ⟨_, rfl⟩
  | refu => cases x with | tup _ _ => exact ⟨_, rfl⟩
theorem Told.sh {d : PyData} (t : Told d) : Sh d := by
  cases t with
  | tup ns h hl => exact sh_row h hl
  | res ns b h hl =>
    obtain ⟨h1, h2, h3, h4⟩ := show_ints h
    refine ⟨?_, ?_, ?_, ?_, ?_⟩
    · show (PyData.showableAll (ns.map PyData.int) && (true && true)) = true
      rw [h1] <;> rfl
    · show (PyData.hasDictAll (ns.map PyData.int) || (false || false)) = false
      rw [h2] <;> rfl
    · show (PyData.leavesShortAll 13 (ns.map PyData.int) && ((PyData.bool b).leavesShort 13 && true)) = true
      rw [h3] <;> cases b <;> decide +kernel
    · show PyData.weightAll (ns.map PyData.int) + 1 + ((PyData.bool b).weight + 1 + 0) ≤ 1000000
      have : (PyData.bool b).weight ≤ 100 := by cases b <;> decide
      omega
    · show max (PyData.depthAll (ns.map PyData.int) + 1) (max 0 0) + 1 ≤ 8
      have := depth_ints ns
      omega
  | row k h =>
    obtain ⟨h1, h2⟩ := show_int h
    have h3 := weight_int h
    refine ⟨?_, rfl, ?_, ?_, by show max 0 (max 0 0) + 1 ≤ 8; decide⟩
    · show ((PyData.str "row").showable && ((PyData.int k).showable && true)) = true
      rw [h1, show (PyData.str "row").showable = true by decide +kernel] <;> rfl
    · show ((PyData.str "row").leavesShort 13 && ((PyData.int k).leavesShort 13 && true)) = true
      rw [h2, show (PyData.str "row").leavesShort 13 = true by decide +kernel] <;> rfl
    · show (PyData.str "row").weight + 1 + ((PyData.int k).weight + 1 + 0) ≤ 1000000
      have : (PyData.str "row").weight ≤ 100 := by decide +kernel
      omega
  | refu => exact ⟨by decide +kernel, by decide +kernel, by decide +kernel, by decide +kernel, by decide +kernel⟩
/-! ### what is due -/
theorem asc_two : ∀ {xs : List Int}, xs.Pairwise (· < ·) → 2 ≤ xs.length → ∃ x y, x ∈ xs ∧ y ∈ xs ∧ x ≠ y
  | [], _, h => absurd h (by decide)
  | [_], _, h => absurd h (by simp)
  | x :: y :: r, p, _ => ⟨x, y, List.mem_cons_self, List.mem_cons_of_mem _ List.mem_cons_self, by
    have := (List.pairwise_cons.mp p).1 y List.mem_cons_self
    omega⟩
theorem one_of {xs : List Int} {x y : Int} (h : xs.length < 2) (hx : x ∈ xs) (hy : y ∈ xs) : x = y := by
  match xs, h, hx, hy with
  | [], _, hx, _ => cases hx
  | [z], _, hx, hy => rw [List.mem_singleton.mp hx, List.mem_singleton.mp hy]
  | _ :: _ :: _, h, _, _ => exact absurd h (by simp)
/-- none of the ends is two exactly if no pair is apart -/
theorem sure_iff {F G : List Int} {n : Nat} {du : List (List Int)} (hl : du.length = n) (hF : F.length = n) (hb : ∀ z ∈ F, 0 ≤ z ∧ z < (n : Int))
    (hd : ∀ (j : Nat) p, du[j]? = some p → p.Pairwise (· < ·) ∧ ∀ k, k ∈ p ↔ Should F G (j : Int) k) : (∀ p ∈ du, p.length < 2) ↔ NoPair F G := by
  constructor
  · intro h i j x y u v hij h1 h2 h3 h4
    have hx := hb x (mem_of_get h1)
    have hlt : x.toNat < du.length := by omega
    obtain ⟨p, hp⟩ : ∃ p, du[x.toNat]? = some p := ⟨_, List.getElem?_eq_getElem hlt⟩
    obtain ⟨_, e⟩ := hd _ _ hp
    rw [show ((x.toNat : Nat) : Int) = x by omega] at e
    exact one_of (h p (mem_of_get hp)) ((e u).mpr ⟨i, h1, h3⟩) ((e v).mpr ⟨j, h2, h4⟩)
  · intro h p hp
    obtain ⟨j, hj, rfl⟩ := List.getElem_of_mem hp
    obtain ⟨a, e⟩ := hd j _ (List.getElem?_eq_getElem hj)
    refine Nat.lt_of_not_le fun h2 => ?_
    obtain ⟨x, y, hx, hy, hxy⟩ := asc_two a h2
    obtain ⟨i1, a1, b1⟩ := (e x).mp hx
    obtain ⟨i2, a2, b2⟩ := (e y).mp hy
    rcases Nat.lt_trichotomy i1 i2 with q | q | q
    · exact hxy (h i1 i2 _ 0 _ _ q a1 a2 b1 b2)
    · rw [q, b2] at b1
      exact hxy (Option.some.inj b1).symm
    · exact hxy (h i2 i1 _ 0 _ _ q a2 a1 b2 b1).symm
end Lk

set_option Elab.async false
set_option linter.all false
set_option maxRecDepth 100000
set_option maxHeartbeats 8000000
namespace Lk
open PySem L2
abbrev s_law : Stmt := top 43
abbrev N_law : List Str := ["script", "deal", "commands", "steps", "machine", "many", "row", "last", "other", "due", "now", "sure", "found", "given", "told", "longer", "wrongs", "odd", "place", "rows", "first", "at"]
abbrev P_law : List Str := ["script"]
theorem sc_law : FnScope N_law P_law (defScope s_law) := ⟨rfl, rfl, rfl, by decide +kernel, rfl, by decide +kernel, by decide +kernel⟩
theorem yesT {σ : St} {H : Hp} {A B : Hp → Prop} (h : A H) : tYes σ H (fun b H3 => if b = true then A H3 else B H3) := iteT (B := B H) h
theorem catA {K : PySem.W.Frag} {H : Hp} {a b : Addr} {xs ys : List V} {Q : VK} (ha : H a = some (.tup xs)) (hb : H b = some (.tup ys)) (hz : xs.length + ys.length ≤ sizeLine) (k : ∀ H' p, Same H H' → H' p = some (.tup (xs ++ ys)) → Q (.ref p) H') : rCatA K (.ref a) (.ref b) H Q := by
  refine ⟨a, b, xs, ys, rfl, rfl, SqT.of ha, SqT.of hb, hz, fun e => k H b (Same.refl _) ?_, fun _ e => k H a (Same.refl _) ?_, fun _ _ p hp => k _ p (Same.new hp) upd_same⟩
  · rw [e, List.nil_append]
    exact hb
  · rw [e, List.append_nil]
    exact ha
theorem r3_none {A : Int} {dx dy dz : PyData} (h1 : rowRes A dx = none) (h2 : rowRes A dy = none) (h3 : rowRes A dz = none) : r3 A dx dy dz = none := by
  unfold r3
  rw [h1, h2, h3]
theorem isB_in {n i : Int} (h0 : 0 ≤ i) (h1 : i < n) : isB n (.int i) = true := by
  show (decide (0 ≤ i) && decide (i < n)) = true
  rw [decide_eq_true h0, decide_eq_true h1] <;> rfl
theorem np_self {F : List Int} : NoPair F F := fun i j x y u v _ h1 h2 h3 h4 => by
  rw [h1] at h3
  rw [h2] at h4
  rw [← Option.some.inj h3, ← Option.some.inj h4]
theorem joinIf2 {c : TT} {t rest : TS} {D : Ends} {σ : St} {H : Hp} {f : St → Hp → Prop} (e : f = tSeq (tIfS c t tNext) rest D) (R1 R2 : Hp → Prop) (h : ∀ Q' : Bool → Hp → Prop, (∀ H', R1 H' → Q' true H') → (∀ H', R2 H' → Q' false H') → c σ H Q')
    (k1 : ∀ H', R1 H' → t { D with nx := rest D } σ H') (k2 : ∀ H', R2 H' → rest D σ H') : f σ H := by
  subst e
  exact h _ (fun H' r => iteT (k1 H' r)) (fun H' r => iteF (k2 H' r))
theorem r3_eq {A : Int} {a b c : PyData} : r3 A a b c = (rowRes A a).or ((rowRes A b).or (rowRes A c)) := by
  unfold r3
  cases rowRes A a <;> cases rowRes A b <;> rfl
def fV : Option Nat → V
  | none => .non
  | some k => .int (k : Int)
theorem r3_s0 {A : Int} {a b c e : PyData} {k : Nat} (ha : rowRes A a = none) (hb : rowRes A b = none) (hc : rowRes A c = none) (he : rowRes A e = some k) : r3 A e b c = some ((r3 A a b c).getD k) := by
  rw [r3_eq, r3_eq, ha, hb, hc, he] <;> rfl
theorem r3_s1 {A : Int} {a b c e : PyData} {k : Nat} (hb : rowRes A b = none) (hc : rowRes A c = none) (he : rowRes A e = some k) : r3 A a e c = some ((r3 A a b c).getD k) := by
  rw [r3_eq, r3_eq, hb, hc, he]
  cases rowRes A a <;> rfl
theorem r3_s2 {A : Int} {a b c e : PyData} {k : Nat} (hc : rowRes A c = none) (he : rowRes A e = some k) : r3 A a b e = some ((r3 A a b c).getD k) := by
  rw [r3_eq, r3_eq, hc, he]
  cases rowRes A a <;> cases rowRes A b <;> rfl
/-- a row as it is passed: what it is, whatever is drawn -/
structure Okay (d l : Addr) (H : Hp) (x : V) (e : PyData) : Prop where
  k : KDv d l H x e
  z : (itemsD e).length ≤ 300
  o : OkD e
theorem joinNameIf2 {c : TT} {t : TS} {D : Ends} {i : Nat} {v : V} {σ : St} {H : Hp} {f : St → Hp → Prop} (e : f = tIfS c t tNext D) (R1 R2 : Hp → Prop) (h : ∀ Q' : Bool → Hp → Prop, (∀ H', R1 H' → Q' true H') → (∀ H', R2 H' → Q' false H') → c (σ.set i (some v)) H Q')
    (k1 : ∀ H', R1 H' → t D (σ.set i (some v)) H') (k2 : ∀ H', R2 H' → D.nx (σ.set i (some v)) H') : gName i v σ H f := by
  subst e
  exact h _ (fun H' r => iteT (k1 H' r)) (fun H' r => iteF (k2 H' r))
def spLaw (K : PySem.W.Frag) : Sp := fun vs H Q _ => ∃ (a : Addr) (ns : List Int), vs = [.ref a] ∧ SqL K H a (ns.map V.int) ∧ ns.length ≤ 63 ∧ ∀ H', Q (.bl true) H'
section
variable {P : Program} {w : World} {K : PySem.W.Frag} {mg : Str → Option Value} {base : Heap} {CM CE CW CR fI pd : Addr} {fdI : FuncData} {kws kwc : List (Str × V)} {u3 u4 : List Value → List Value → List Value} {dsc : List Value}
theorem ok_law {f fdr fgr fan fof fro fco fdu fas fwr fm fc : Addr} {fd gdr ggr gan gof gro gco gdu gas gwr fdm fdc : FuncData} (A0 : Df K mg "law" s_law f fd P_law)
    (d_law_draw : Df K mg "_law_draw" s_law_draw fdr gdr P_law_draw) (d_law_graded : Df K mg "_law_graded" s_law_graded fgr ggr P_law_graded) (d_law_any : Df K mg "_law_any" s_law_any fan gan P_law_any) (d_law_of : Df K mg "_law_of" s_law_of fof gof P_law_of) (d_law_row : Df K mg "_law_row" s_law_row fro gro P_law_row)
    (d_law_corrected : Df K mg "_law_corrected" s_law_corrected fco gco P_law_corrected) (d_law_due : Df K mg "_law_due" s_law_due fdu gdu P_law_due) (d_law_asked : Df K mg "_law_asked" s_law_asked fas gas P_law_asked) (d_law_wrong : Df K mg "_law_wrong" s_law_wrong fwr gwr P_law_wrong)
    (d_m : DfD K mg "mended_states" s_mended_states kws fm fdm) (d_c : DfD K mg "can_be_mended" s_can_be_mended kwc fc fdc) (W0 : WTup K pd) (p_m : KBn K fdm P_mended_states 4 ["since"] u4 (fun vs zs => vs ++ zs)) (p_c : KBn K fdc P_can_be_mended 3 ["since"] u3 (fun vs zs => vs ++ zs)) (b_c : Binds K fdc P_can_be_mended dsc) (v_c : Vals [V.ref pd] dsc)
    (G_m : FnOk P w K mg base (L2.CX P w) 9 fm fdm P_mended_states (spMended K CM CW CR)) (G_c : FnOk P w K mg base (L2.CX P w) 9 fc fdc P_can_be_mended (spCan K CM CW))
    (G_law_graded : FnOk P w K mg base CX0 5 fgr ggr P_law_graded spGraded) (G_law_asked : FnOk P w K mg base CX0 10 fas gas P_law_asked (spAsk CM)) (G_law_due : FnOk P w K mg base CX0 2 fdu gdu P_law_due spDue)
    (MC : McT K mg CM fI fdI) (GI : FnOk P w K mg base (L2.CX P w) 7 fI fdI P_Machine___init (spInit CM CE)) (T : Txt mg) : FnG P w K mg base 11 f fd P_law (spLaw K) := by
  have G_law_any : FnOk P w K mg base CX0 1 fan gan P_law_any spAny := ok_any d_law_any T
  have G_law_draw : FnOk P w K mg base CX0 1 fdr gdr P_law_draw (spDraw K) := ok_draw d_law_draw T
  have G_law_of : FnOk P w K mg base CX0 2 fof gof P_law_of spOf := ok_of d_law_of d_law_any T
  have G_law_row : FnOk P w K mg base CX0 2 fro gro P_law_row spRow := ok_row d_law_row d_law_any T
  have G_law_corrected : FnOk P w K mg base CX0 3 fco gco P_law_corrected spCorr := ok_corr d_law_corrected d_law_any d_law_row T
  have G_law_wrong : FnOk P w K mg base CX0 3 fwr gwr P_law_wrong spOdd := ok_odd d_law_wrong d_law_any d_law_of T
  refine Fun.okG A0.F sc_law (fun vs H Q E h => ?_) (fun cdv Ar outer s H vs Q E quiet hr h => ?_)
  · obtain ⟨a, ns, rfl, _⟩ := h
    rfl
  · obtain ⟨sa, sn, rfl, hsa, hsn, k⟩ := h
    have hu : Ar.units + 3 + 16 < cLine := by have := hr.un; simp only [Around.deeper] at this; omega
    have hq : Ar.guards = some [] := quiet
    refine ⟨_, (pss_cons (ps_set (i := 1) sc_law.nd rfl (Or.inl rfl) (pe_call G_law_draw (hr.mono (by decide)) rfl d_law_draw.g d_law_draw.F.kp d_law_draw.b .nil pass0 (pa_cons (pv 0) (pa_cons pe_int pa_nil))))
    (pss_cons (ps_asg (pe_call G_law_graded (hr.mono (by decide)) rfl d_law_graded.g d_law_graded.F.kp d_law_graded.b .nil pass0 (pa_cons (pv 1) pa_nil)) (pg_tup rfl (pgs_cons (pg_name (i := 2) sc_law.nd rfl (Or.inl rfl)) (pgs_cons (pg_name (i := 3) sc_law.nd rfl (Or.inr rfl)) pgs_nil))))
    (pss_cons (ps_par (i := 4) (j := 5) rfl sc_law.nd rfl rfl (by decide) rfl rfl (pa_cons (pe_make MC.mM GI (hr.mono (by decide)) rfl MC.g MC.b .nil (pass_never (P := P) (w := w)) (pa_cons (pv 2) (pa_cons (pv 3) pa_nil))) (pa_cons (pe_callB call_len_seq (by rfl) T.len PySem.boot_len (pa_cons (pv 3) pa_nil)) pa_nil)) rfl)
    (pss_cons (ps_asg (pe_tup (pa_cons (pe_call G_law_row (hr.mono (by decide)) rfl d_law_row.g d_law_row.F.kp d_law_row.b .nil pass0 (pa_cons (pv 1) (pa_cons (pv 2) (pa_cons (pe_call G_law_any (hr.mono (by decide)) rfl d_law_any.g d_law_any.F.kp d_law_any.b .nil pass0 (pa_cons (pv 1) (pa_cons pe_int pa_nil))) pa_nil)))) (pa_cons (pe_call G_law_row (hr.mono (by decide)) rfl d_law_row.g d_law_row.F.kp d_law_row.b .nil pass0 (pa_cons (pv 1) (pa_cons (pv 2) (pa_cons (pe_call G_law_any (hr.mono (by decide)) rfl d_law_any.g d_law_any.F.kp d_law_any.b .nil pass0 (pa_cons (pv 1) (pa_cons pe_int pa_nil))) pa_nil)))) pa_nil))) (pg_tup rfl (pgs_cons (pg_name (i := 6) sc_law.nd rfl (Or.inr rfl)) (pgs_cons (pg_name (i := 7) sc_law.nd rfl (Or.inr rfl)) pgs_nil))))
    (pss_cons (ps_set (i := 8) sc_law.nd rfl (Or.inr rfl) (pe_call G_law_corrected (hr.mono (by decide)) rfl d_law_corrected.g d_law_corrected.F.kp d_law_corrected.b .nil pass0 (pa_cons (pv 1) (pa_cons (pv 2) (pa_cons (pv 6) pa_nil)))))
    (pss_cons (ps_setLc (i := 9) (own := [("now", 10)]) (g := gName 10) (tt := tYes) rfl sc_law.nd rfl rfl (sw_true rfl rfl rfl (by decide +kernel)) (pi_range1 rfl T.range (pa_cons (pv 5) pa_nil)) (blkOk_by (N := N_law) (sc := defScope s_law) (by decide +kernel)) (fun _ _ _ _ _ => (pg_name (i := 10) sc_law.nd rfl (Or.inl rfl))) (fun _ _ _ _ _ => pts_nil) (fun _ _ _ _ _ => (pe_call G_law_due (hr.mono (by decide)) rfl d_law_due.g d_law_due.F.kp d_law_due.b .nil pass0 (pa_cons (pv 3) (pa_cons (pv 10) (pa_cons (pv 6) (pa_cons (pv 8) (pa_cons (pv 7) pa_nil))))))))
    (pss_cons (ps_set (i := 11) sc_law.nd rfl (Or.inl rfl) (pe_cmpR op_lt (pe_callB (cr_max rfl) (by rfl) T.max (by decide +kernel) (pa_cons (pe_lc (own := [("found", 12)]) (g := gName 12) (tt := tYes) (te := tCB (fun xs H Q => ∃ p ys, xs = [V.ref p] ∧ (SqL K H p ys ∨ SqT K H p ys) ∧ Q (V.int (ys.length : Nat)) H) (tCons (tVar 12) tNil)) rfl sc_law.nd (pi_list (pv 9)) (blkOk_by (N := N_law) (sc := defScope s_law) (by decide +kernel)) (fun _ _ _ _ _ => (pg_name (i := 12) sc_law.nd rfl (Or.inl rfl))) (fun _ _ _ _ _ => pts_nil) (fun _ _ _ _ _ => (pe_callB call_len_seq (by rfl) T.len PySem.boot_len (pa_cons (pv 12) pa_nil)))) pa_nil)) pe_int (nomark _)))
    (pss_cons (ps_set (i := 13) sc_law.nd rfl (Or.inl rfl) (pe_lst (pa_cons (pe_callTy call_list_of (by rfl) T.list (by decide +kernel) (pa_cons (pv 6) pa_nil)) (pa_cons (pe_callTy call_list_of (by rfl) T.list (by decide +kernel) (pa_cons (pv 8) pa_nil)) (pa_cons (pe_ifExp (pt_cmpR op_gt (pe_callB call_len_seq (by rfl) T.len PySem.boot_len (pa_cons (pv 7) pa_nil)) pe_int (nomark _)) (pe_callTy call_list_of (by rfl) T.list (by decide +kernel) (pa_cons (pv 7) pa_nil)) (pe_tup pa_nil)) pa_nil)))))
    (pss_cons (ps_for PassesOwn.never rfl (pi_range1 rfl T.range (pa_cons (pv 5) pa_nil)) (pg_name (i := 10) sc_law.nd rfl (Or.inl rfl))
      (pss_cons (ps_set (i := 14) sc_law.nd rfl (Or.inl rfl) (pe_call G_law_asked (hr.mono (by decide)) rfl d_law_asked.g d_law_asked.F.kp d_law_asked.b .nil pass0 (pa_cons (pv 4) (pa_cons (pv 10) (pa_cons (pe_ix ix_list (pv 13) pe_int (fun _ _ => rfl)) (pa_cons (pe_ix ix_list (pv 13) pe_int (fun _ _ => rfl)) (pa_cons (pe_ix ix_list (pv 13) pe_int (fun _ _ => rfl)) pa_nil)))))))
      (pss_one (ps_if (pt_cmpR op_ne (pe_callB (call_repr hq hu) (by rfl) T.repr (by decide +kernel) (pa_cons (pv 14) pa_nil)) (pe_callB (call_repr hq hu) (by rfl) T.repr (by decide +kernel) (pa_cons (pe_tup (pa_cons (pe_ix ix_list (pv 9) (pv 10) (fun _ _ => rfl)) (pa_cons (pv 11) pa_nil))) pa_nil)) (nomark _)) (pss_one (ps_ret pe_bl)) pss_nil))))
    (pss_cons (ps_if (pt_cmpR op_ne (pe_callB call_reprB (by rfl) T.repr (by decide +kernel) (pa_cons (by exact (pe_kwP (ks := ["since"]) G_c (hr.mono (by decide)) rfl d_c.g d_c.F.kp p_c (out_never (P := P) (w := w)) (by exact (pa_cons (pv 4) (pa_cons (pv 6) (pa_cons (pv 8) pa_nil)))) (by exact (pk_cons (pv 7) pk_nil)))) pa_nil)) (pe_callB call_reprB (by rfl) T.repr (by decide +kernel) (pa_cons (pv 11) pa_nil)) (nomark _)) (pss_one (ps_ret pe_bl)) pss_nil)
    (pss_cons (ps_expr (pe_bm PySem.F.plainAttrs_list PySem.F.slot_list_append PySem.F.type_list_append mt_append (pe_ix ix_list (pv 13) pe_int (fun _ _ => rfl)) (pa_cons pe_int pa_nil)))
    (pss_cons (ps_set (i := 15) sc_law.nd rfl (Or.inl rfl) (pe_call G_law_due (hr.mono (by decide)) rfl d_law_due.g d_law_due.F.kp d_law_due.b .nil pass0 (pa_cons (pv 3) (pa_cons pe_int (pa_cons (pe_op op_catA (pv 6) (pe_tup (pa_cons pe_int pa_nil))) (pa_cons (pv 8) (pa_cons (pv 7) pa_nil)))))))
    (pss_cons (ps_if (pt_cmpR op_ne (pe_callB (call_repr hq hu) (by rfl) T.repr (by decide +kernel) (pa_cons (by exact (pe_kwP (ks := ["since"]) G_m (hr.mono (by decide)) rfl d_m.g d_m.F.kp p_m (out_never (P := P) (w := w)) (by exact (pa_cons (pv 4) (pa_cons pe_int (pa_cons (pe_ix ix_list (pv 13) pe_int (fun _ _ => rfl)) (pa_cons (pv 8) pa_nil))))) (by exact (pk_cons (pv 7) pk_nil)))) pa_nil)) (pe_callB (call_repr hq hu) (by rfl) T.repr (by decide +kernel) (pa_cons (pv 15) pa_nil)) (nomark _)) (pss_one (ps_ret pe_bl)) pss_nil)
    (pss_cons (ps_if (pt_cmpR op_ne (pe_callB (call_repr hq hu) (by rfl) T.repr (by decide +kernel) (pa_cons (by exact (pe_kwP (ks := ["since"]) G_m (hr.mono (by decide)) rfl d_m.g d_m.F.kp p_m (out_never (P := P) (w := w)) (by exact (pa_cons (pv 4) (pa_cons pe_int (pa_cons (pv 6) (pa_cons (pv 8) pa_nil))))) (by exact (pk_cons (pv 7) pk_nil)))) pa_nil)) (pe_callB (call_repr hq hu) (by rfl) T.repr (by decide +kernel) (pa_cons (pe_ix ix_list (pv 9) pe_int (fun _ _ => rfl)) pa_nil)) (nomark _)) (pss_one (ps_ret pe_bl)) pss_nil)
    (pss_cons (ps_if (PW.pt (pw_or (pt_not (pt_val (by exact (pe_kwP (ks := ["since"]) G_c (hr.mono (by decide)) rfl d_c.g d_c.F.kp p_c (out_never (P := P) (w := w)) (by exact (pa_cons (pv 4) (pa_cons (pv 6) (pa_cons (pv 6) pa_nil)))) (by exact (pk_cons (pv 7) pk_nil)))))) (pw_or1 (pt_not (pt_val (pe_callSD G_c (hr.mono (by decide)) rfl d_c.g d_c.F.kp b_c v_c (out_never (P := P) (w := w)) (pa_cons (pv 4) (pa_cons (pv 8) (pa_cons (pv 8) pa_nil))))))))) (pss_one (ps_ret pe_bl)) pss_nil)
    (pss_cons (ps_set (i := 16) sc_law.nd rfl (Or.inl rfl) (pe_lst (pa_cons (pe_call G_law_wrong (hr.mono (by decide)) rfl d_law_wrong.g d_law_wrong.F.kp d_law_wrong.b .nil pass0 (pa_cons (pv 1) (pa_cons (pv 2) (pa_cons (pv 6) pa_nil)))) (pa_cons (pe_call G_law_wrong (hr.mono (by decide)) rfl d_law_wrong.g d_law_wrong.F.kp d_law_wrong.b .nil pass0 (pa_cons (pv 1) (pa_cons (pv 2) (pa_cons (pv 8) pa_nil)))) (pa_cons (pe_call G_law_wrong (hr.mono (by decide)) rfl d_law_wrong.g d_law_wrong.F.kp d_law_wrong.b .nil pass0 (pa_cons (pv 1) (pa_cons (pv 2) (pa_cons (pv 7) pa_nil)))) pa_nil)))))
    (pss_cons (ps_par (i := 17) (j := 18) rfl sc_law.nd rfl rfl (by decide) rfl rfl (pa_cons (pe_call G_law_of (hr.mono (by decide)) rfl d_law_of.g d_law_of.F.kp d_law_of.b .nil pass0 (pa_cons (pv 1) (pa_cons (pe_lst (pa_cons (pv 5) (pa_cons (pe_un un_neg pe_int) (pa_cons pe_non (pa_cons pe_bl (pa_cons pe_str (pa_cons (pe_tup (pa_cons pe_int pa_nil)) pa_nil))))))) pa_nil))) (pa_cons (pe_call G_law_any (hr.mono (by decide)) rfl d_law_any.g d_law_any.F.kp d_law_any.b .nil pass0 (pa_cons (pv 1) (pa_cons pe_int pa_nil))) pa_nil)) rfl)
    (pss_cons (ps_par (i := 19) (j := 20) rfl sc_law.nd rfl rfl (by decide) rfl rfl (pa_cons (pe_lst (pa_cons (pv 6) (pa_cons (pv 8) (pa_cons (pv 7) pa_nil)))) (pa_cons pe_non pa_nil)) rfl)
    (pss_cons (ps_for PassesOwn.never rfl (pi_range1 rfl T.range (pa_cons pe_int pa_nil)) (pg_name (i := 21) sc_law.nd rfl (Or.inl rfl))
      (pss_one (ps_if (PW.pt (pw_or (pt_cmpR op_eq (pv 21) (pv 18) (nomark _)) (pw_or1 (pt_cmpR op_eq (pe_call G_law_any (hr.mono (by decide)) rfl d_law_any.g d_law_any.F.kp d_law_any.b .nil pass0 (pa_cons (pv 1) (pa_cons pe_int pa_nil))) pe_int (nomark _))))) (pss_cons (ps_asg (pe_ix ix_tup (pe_ix ix_list (pv 16) (pv 21) (fun _ _ => rfl)) pe_int (fun _ _ => rfl)) (pg_sub (pv 19) (pv 21) set_list))
        (pss_one (ps_set (i := 20) sc_law.nd rfl (Or.inl rfl) (pe_ifExp (pt_cmpR op_notN (pv 20) pe_non (nomark _)) (pv 20) (pe_ix ix_tup (pe_ix ix_list (pv 16) (pv 21) (fun _ _ => rfl)) pe_int (fun _ _ => rfl)))))) pss_nil)))
    (pss_cons (ps_set (i := 10) sc_law.nd rfl (Or.inl rfl) (pe_call G_law_any (hr.mono (by decide)) rfl d_law_any.g d_law_any.F.kp d_law_any.b .nil pass0 (pa_cons (pv 1) (pa_cons (pv 5) pa_nil))))
    (pss_cons (ps_if (pt_cmpR op_ne (pe_callB (call_repr hq hu) (by rfl) T.repr (by decide +kernel) (pa_cons (pe_call G_law_asked (hr.mono (by decide)) rfl d_law_asked.g d_law_asked.F.kp d_law_asked.b .nil pass0 (pa_cons (pv 4) (pa_cons (pv 10) (pa_cons (pe_ix ix_list (pv 19) pe_int (fun _ _ => rfl)) (pa_cons (pe_ix ix_list (pv 19) pe_int (fun _ _ => rfl)) (pa_cons (pe_ix ix_list (pv 19) pe_int (fun _ _ => rfl)) pa_nil)))))) pa_nil)) (pe_callB (call_repr hq hu) (by rfl) T.repr (by decide +kernel) (pa_cons (pe_tup (pa_cons pe_str (pa_cons (pv 20) pa_nil))) pa_nil)) (nomark _)) (pss_one (ps_ret pe_bl)) pss_nil)
    (pss_cons (ps_if (pt_cmpR op_ne (pe_callB (call_repr hq hu) (by rfl) T.repr (by decide +kernel) (pa_cons (pe_call G_law_asked (hr.mono (by decide)) rfl d_law_asked.g d_law_asked.F.kp d_law_asked.b .nil pass0 (pa_cons (pv 4) (pa_cons (pv 17) (pa_cons (pe_ix ix_list (pv 19) pe_int (fun _ _ => rfl)) (pa_cons (pe_ix ix_list (pv 19) pe_int (fun _ _ => rfl)) (pa_cons (pe_ix ix_list (pv 19) pe_int (fun _ _ => rfl)) pa_nil)))))) pa_nil)) (pe_callB (call_repr hq hu) (by rfl) T.repr (by decide +kernel) (pa_cons (pe_tup (pa_cons pe_str (pa_cons pe_int pa_nil))) pa_nil)) (nomark _)) (pss_one (ps_ret pe_bl)) pss_nil)
    (pss_cons (ps_if (pt_cmpR op_ne (pe_callB (call_repr hq hu) (by rfl) T.repr (by decide +kernel) (pa_cons (pe_call G_law_asked (hr.mono (by decide)) rfl d_law_asked.g d_law_asked.F.kp d_law_asked.b .nil pass0 (pa_cons (pv 4) (pa_cons (pv 17) (pa_cons (pv 6) (pa_cons (pv 8) (pa_cons (pv 7) pa_nil)))))) pa_nil)) (pe_callB (call_repr hq hu) (by rfl) T.repr (by decide +kernel) (pa_cons (pe_tup (pa_cons pe_str (pa_cons pe_int pa_nil))) pa_nil)) (nomark _)) (pss_one (ps_ret pe_bl)) pss_nil)
    (pss_one (ps_ret (pe_cmpR op_eq (pe_callB (call_repr hq hu) (by rfl) T.repr (by decide +kernel) (pa_cons (pe_call G_law_asked (hr.mono (by decide)) rfl d_law_asked.g d_law_asked.F.kp d_law_asked.b .nil pass0 (pa_cons (pv 4) (pa_cons (pv 10) (pa_cons (pv 6) (pa_cons (pv 8) (pa_cons (pv 7) pa_nil)))))) pa_nil)) (pe_callB (call_repr hq hu) (by rfl) T.repr (by decide +kernel) (pa_cons (pe_tup (pa_cons (pe_ix ix_list (pv 9) (pv 10) (fun _ _ => rfl)) (pa_cons (pv 11) pa_nil))) pa_nil)) (nomark _))))))))))))))))))))))))))), ?_⟩
    refine ⟨_, rfl, sa, sn, 41, rfl, hsa, hsn, by decide, by decide, fun H1 d l D1 S1 hd hl => ?_⟩
    refine ⟨_, rfl, d, l, rfl, D1, fun H2 t a A ts D2 S2 t0 ht N2 G2 h0 h3 hm R2 => ?_⟩
    refine ⟨t, _, rfl, SqT.of ht, rfl, _, _, rfl, _, _, rfl, rfl, ?_⟩
    have na : ¬ dl d l a := D1.free N2.top
    have nt : ∀ u ∈ ts, ¬ dl d l u.1 := fun u hu' => D1.free (N2.row u hu')
    have hz : ts.length ≤ 4 := by omega
    have hp : 0 < ts.length := R2.pos
    have RR : Rs A (rsOf ts) := R2.rs
    refine norm (σ' := [some (.ref sa), some (.ref d), some (.int (A : Int)), some (.ref a), none, none, none, none, none, none, none, none, none, none, none, none, none, none, none, none, none, none]) rfl ?_
    refine ⟨_, rfl, _, rfl, make_rows (CE := CE) h0 (by omega) G2 RR (by omega) fun H4 m us S4 hm4 M4 e4 => ?_⟩
    have g4 : Game CM H4 d l a m A ts us := ⟨D2.same S4, G2.same S4, na, nt, R2, h0, by omega, by omega, M4, e4⟩
    refine ⟨_, rfl, a, _, rfl, .inl (SqL.of g4.G.top), _, _, rfl, ?_⟩
    rw [List.length_map]
    refine norm (σ' := [some (.ref sa), some (.ref d), some (.int (A : Int)), some (.ref a), some (.ref m), some (.int (ts.length : Int)), none, none, none, none, none, none, none, none, none, none, none, none, none, none, none, none]) rfl ?_
    refine ⟨_, rfl, _, rfl, _, rfl, d, l, 5, rfl, by decide, by decide, g4.D, fun H5 n5 D5 S5 n50 n51 => ?_⟩
    refine ⟨d, l, (A : Int), n5, rfl, by omega, by omega, n50, by omega, D5, fun H6 r ns D6 S6 r0 hr6 rl rb => ?_⟩
    refine ⟨_, rfl, _, rfl, _, rfl, d, l, 4, rfl, by decide, by decide, D6, fun H7 n7 D7 S7 n70 n71 => ?_⟩
    refine ⟨d, l, (A : Int), n7, rfl, by omega, by omega, n70, by omega, D7, fun H8 z zs D8 S8 z0 hz8 zl zb => ⟨by show 2 ≤ sizeLine; decide, fun tp htp => ?_⟩⟩
    refine ⟨tp, _, rfl, SqT.of upd_same, rfl, _, _, rfl, _, _, rfl, rfl, ?_⟩
    refine norm (σ' := [some (.ref sa), some (.ref d), some (.int (A : Int)), some (.ref a), some (.ref m), some (.int (ts.length : Int)), some (.ref r), some (.ref z), none, none, none, none, none, none, none, none, none, none, none, none, none, none]) rfl ?_
    have nr : ¬ dl d l r := D5.free r0
    have nz : ¬ dl d l z := D7.free z0
    have D9 := D8.new (o := HO.tup [V.ref r, V.ref z]) htp
    have S9 : SB d l H8 _ := SB.new (o := HO.tup [V.ref r, V.ref z]) htp
    have hr9 := ((S7.trans S8).trans S9).kp.get nr hr6
    have hz9 := S9.kp.get nz hz8
    have g9 := g4.go D9 (((S5.trans S6).trans (S7.trans S8)).trans S9)
    refine ⟨_, rfl, _, rfl, _, rfl, d, l, r, (A : Int), ns, rfl, D9, hr9, nr, by omega, by omega, by omega, rb, fun H10 o ms D10 S10 o0 ho10 ol ob => ?_⟩
    have no : ¬ dl d l o := D9.free o0
    have hr10 := S10.kp.get nr hr9
    have hz10 := S10.kp.get nz hz9
    have g10 := g9.go D10 S10
    -- [some (.ref sa), some (.ref d), some (.int (A : Int)), some (.ref a), some (.ref m), some (.int (ts.length : Int)), some (.ref r), some (.ref z), some (.ref o), none, none, none, none, none, none, none, none, none, none, none, none, none]
    obtain ⟨F, eF⟩ : ∃ F, F = effs (rsOf ts) (ns ++ zs) := ⟨_, rfl⟩
    obtain ⟨G, eG⟩ : ∃ G, G = effs (rsOf ts) (ms ++ zs) := ⟨_, rfl⟩
    have cat_in : ∀ {xs ys : List Int}, (∀ c ∈ xs, 0 ≤ c ∧ c < (A : Int)) → (∀ c ∈ ys, 0 ≤ c ∧ c < (A : Int)) → ∀ c ∈ xs ++ ys, 0 ≤ c ∧ c < (A : Int) := fun h1 h2 c hc => (List.mem_append.mp hc).elim (h1 c) (h2 c)
    have inF : InR ts.length F := by
      have := effs_in RR (cat_in rb zb)
      rw [rsOf_len] at this
      rw [eF]
      exact this
    have eU : rsOf us = rsOf ts := g10.e
    have lU : us.length = ts.length := by rw [← rsOf_len us, eU, rsOf_len]
    refine ⟨_, rfl, (ts.length : Int), rfl, by omega, by omega, fun W hW => ?_⟩
    refine lc_range (Pv := fun i H' => Same H10 H' ∧ ∃ du : List (Addr × List Int), H' W = some (.lst (du.map fCol)) ∧ du.length = i ∧ ∀ (j : Nat) p, du[j]? = some p → H10 p.1 = none ∧ H' p.1 = some (.tup (p.2.map V.int)) ∧ p.2.Pairwise (· < ·) ∧ p.2.length ≤ 60 ∧ ∀ k, k ∈ p.2 ↔ Should F G (j : Int) k) ⟨Same.new hW, [], upd_same, rfl, fun j p h => by simp at h⟩ (fun i H' hi x => ?_) (fun H' x => ?_)
    · obtain ⟨SW, du, hdu, ldu, fdu⟩ := x
      have gi := g10.same SW
      refine ⟨wipe1 _ _ _, yesT ?_⟩
      refine ⟨_, rfl, _, rfl, _, rfl, _, rfl, _, rfl, a, r, o, z, 0 + (i : Int), A, ts, ns, ms, zs, rfl, gi.G, R2, by omega, SW _ _ hr10, SW _ _ ho10, SW _ _ hz10, by omega, by omega, by omega, rb, ob, zb, fun H'' p ks S'' p0' hp' asc kl km => ?_⟩
      rw [← eF, ← eG, show (0 : Int) + (i : Int) = (i : Int) by omega] at km
      refine ⟨_, S'' _ _ hdu, ?_, ?_, du ++ [(p, ks)], by rw [List.map_append]; exact upd_same, by rw [List.length_append, ldu] <;> rfl, fun j q hq => ?_⟩
      · rw [List.length_map, ldu]
        exact Nat.lt_of_lt_of_le (show i < 100 by omega) (by decide)
      · exact ((KP.same (S := fun _ => False) (SW.trans S'')).mut hW).toSame
      · by_cases hj : j < du.length
        · rw [List.getElem?_append_left hj] at hq
          obtain ⟨f1, f2, f3⟩ := fdu j q hq
          refine ⟨f1, ?_, f3⟩
          rw [upd_ne (fun e => by rw [e, hdu] at f2; cases f2)]
          exact S'' _ _ f2
        · rw [List.getElem?_append_right (by omega)] at hq
          have hj0 : j - du.length = 0 := by
            have := (List.getElem?_eq_some_iff.mp hq).1
            simp at this
            omega
          rw [hj0] at hq
          have eq : (p, ks) = q := Option.some.inj hq
          have ej : j = i := by omega
          rw [← eq, ej]
          refine ⟨SW.free p0', ?_, asc, kl, km⟩
          rw [upd_ne (fun e => by rw [show p = W from e, S'' _ _ hdu] at hp'; cases hp')]
          exact hp'
    obtain ⟨S11, du, hdu, ldu, fdu⟩ := x
    have nW : ¬ dl d l W := D10.free hW
    have hget : ∀ p ∈ du, ∃ j : Nat, du[j]? = some p := fun p hp => List.mem_iff_getElem?.mp hp
    obtain ⟨lens, eL⟩ : ∃ lens : List Int, lens = du.map fun p => ((p.2.length : Nat) : Int) := ⟨_, rfl⟩
    -- sure
    refine ⟨_, rfl, W, rfl, ⟨_, SqL.of hdu⟩, fun V' hV => ?_⟩
    refine lc_list (K := K) (a := W) (xs := du.map fCol) (fun i H'' => Same H' H'' ∧ H'' V' = some (.lst ((lens.take i).map V.int))) ⟨Same.new hV, upd_same⟩ (fun i H'' _ x => SqL.of (x.1 _ _ hdu)) (fun i x H'' hi px => ?_) (fun H'' px => ?_)
    · obtain ⟨p, hp, rfl⟩ : ∃ p, du[i]? = some p ∧ fCol p = x := by
        rw [List.getElem?_map] at hi
        cases e : du[i]? with
        | none => rw [e] at hi; cases hi
        | some c => rw [e] at hi; exact ⟨c, rfl, Option.some.inj hi⟩
      have f2 := (fdu i p hp).2.1
      refine ⟨wipe1 _ _ _, yesT ⟨_, rfl, p.1, _, rfl, .inr (SqT.of (px.1 _ _ f2)), _, px.2, ?_, ?_, ?_⟩⟩
      · rw [List.length_map, List.length_take]
        have : i < du.length := (List.getElem?_eq_some_iff.mp hp).1
        exact Nat.lt_of_le_of_lt (show min i lens.length ≤ 100 by omega) (by decide)
      · exact ((KP.same (S := fun _ => False) px.1).mut hV).toSame
      · rw [upd_same, List.length_map, take_next (x := ((p.2.length : Nat) : Int)) (by rw [eL, List.getElem?_map, hp] <;> rfl), List.map_append] <;> rfl
    obtain ⟨S12, h12⟩ := px
    have lL : lens.length = du.length := by rw [eL, List.length_map]
    rw [List.length_map, ← lL, List.take_length] at h12
    refine ⟨V', lens, rfl, SqL.of h12, by omega, fun mx hmx hle => ⟨_, _, rfl, rfl, ?_⟩⟩
    obtain ⟨b, eb⟩ : ∃ b, decide (mx < 2) = b := ⟨_, rfl⟩
    show gName 11 (V.bl (decide (mx < 2))) _ _ _
    rw [eb]
    have hsure : b = true ↔ NoPair F G := by
      rw [← sure_iff (F := F) (G := G) (n := ts.length) (du := du.map (·.2)) (by rw [List.length_map]; exact ldu) inF.len inF.mem (fun j p hp => by
        rw [List.getElem?_map] at hp
        cases e : du[j]? with
        | none => rw [e] at hp; cases hp
        | some q =>
          rw [e] at hp
          have eq : q.2 = p := Option.some.inj hp
          rw [← eq]
          exact ⟨(fdu j q e).2.2.1, (fdu j q e).2.2.2.2⟩), ← eb, decide_eq_true_iff]
      constructor
      · intro h p hp
        obtain ⟨q, hq, rfl⟩ := List.mem_map.mp hp
        have := hle _ (by rw [eL]; exact List.mem_map.mpr ⟨q, hq, rfl⟩)
        omega
      · intro h
        rw [eL] at hmx
        obtain ⟨q, hq, rfl⟩ := List.mem_map.mp hmx
        have := h q.2 (List.mem_map.mpr ⟨q, hq, rfl⟩)
        omega
    have S13 := S11.trans S12
    have hr13 := S13 _ _ hr10
    have hz13 := S13 _ _ hz10
    have ho13 := S13 _ _ ho10
    have g13 := g10.same S13
    -- given
    refine joinName (by with_reducible rfl) (fun v H' => ∃ (g0 g1 g2 gl : Addr) (dz : PyData), v = .ref gl ∧ Same H'' H' ∧ H'' gl = none ∧ H' gl = some (.lst [.ref g0, .ref g1, .ref g2]) ∧ H'' g0 = none ∧ H' g0 = some (.lst (ns.map V.int)) ∧ H'' g1 = none ∧ H' g1 = some (.lst (ms.map V.int)) ∧ H'' g2 = none ∧ ((H' g2 = some (.lst (zs.map V.int)) ∧ dz = .list (zs.map PyData.int)) ∨ (H' g2 = some (.tup []) ∧ dz = .tuple [] ∧ zs = []))) (fun Q' kQ => ?_) (fun v H14 hR => ?_)
    · refine ⟨_, rfl, r, _, rfl, .inr (SqT.of hr13), fun g0 hg0 => ⟨_, rfl, o, _, rfl, .inr (SqT.of (nk ho13 hg0)), fun g1 hg1 => ?_⟩⟩
      have hz14 := nk (u := HO.lst (ms.map V.int)) (nk (u := HO.lst (ns.map V.int)) hz13 hg0) hg1
      have Sg : Same H'' _ := (Same.new (o := HO.lst (ns.map V.int)) hg0).trans (Same.new (o := HO.lst (ms.map V.int)) hg1)
      refine ⟨_, rfl, z, _, rfl, .inr (SqT.of hz14), _, _, rfl, rfl, _, rfl, ite2 (fun _ => ?_) (fun hlen => ?_)⟩
      · refine ⟨_, rfl, z, _, rfl, .inr (SqT.of hz14), fun g2 hg2 => ⟨by show 3 ≤ sizeLine; decide, fun gl hgl => kQ _ _ ⟨g0, g1, g2, gl, _, rfl, (Sg.trans (Same.new hg2)).trans (Same.new hgl), (Sg.trans (Same.new hg2)).free hgl, upd_same, hg0, nk (nk (nk upd_same hg1) hg2) hgl, (Same.new hg0).free hg1, nk (nk upd_same hg2) hgl, Sg.free hg2, .inl ⟨nk upd_same hgl, rfl⟩⟩⟩⟩
      · refine ⟨Nat.zero_le _, fun g2 hg2 => ⟨by show 3 ≤ sizeLine; decide, fun gl hgl => kQ _ _ ⟨g0, g1, g2, gl, _, rfl, (Sg.trans (Same.new hg2)).trans (Same.new hgl), (Sg.trans (Same.new hg2)).free hgl, upd_same, hg0, nk (nk (nk upd_same hg1) hg2) hgl, (Same.new hg0).free hg1, nk (nk upd_same hg2) hgl, Sg.free hg2, .inr ⟨nk upd_same hgl, rfl, ?_⟩⟩⟩⟩
        have h2 : ¬ (decide ((0 : Int) < (((zs.map V.int).length : Nat) : Int)) = true) := hlen
        rw [decide_eq_true_iff, List.length_map] at h2
        exact List.length_eq_zero_iff.mp (by omega)
    obtain ⟨g0, g1, g2, gl, dz, rfl, S14, gl0, hgl, g00, hg0, g10', hg1, g20, hg2⟩ := hR
    have g14 := g13.same S14
    have hr14 := S14 _ _ hr13
    have hz14 := S14 _ _ hz13
    have ho14 := S14 _ _ ho13
    have hdu14 := S14 _ _ (S12 _ _ hdu)
    have fdu14 : ∀ (j : Nat) p, du[j]? = some p → ¬ dl d l p.1 ∧ H14 p.1 = some (.tup (p.2.map V.int)) ∧ p.2.Pairwise (· < ·) ∧ p.2.length ≤ 60 ∧ ∀ k, k ∈ p.2 ↔ Should F G (j : Int) k := fun j p hp => by
      obtain ⟨f1, f2, f3⟩ := fdu j p hp
      exact ⟨D10.free f1, S14 _ _ (S12 _ _ f2), f3⟩
    have dgt : ∀ j : Nat, j < ts.length → ∃ p, du[j]? = some p := fun j hj => ⟨_, List.getElem?_eq_getElem (by omega)⟩
    have i1 : ∀ xs : List Int, intsD (.list (xs.map PyData.int)) = xs := fun xs => intD_ints _
    have i2 : ∀ xs : List Int, intsD (.tuple (xs.map PyData.int)) = xs := fun xs => intD_ints _
    have lz : ∀ xs : List Int, xs.length ≤ 250 → (xs.map PyData.int).length ≤ 300 := fun xs h => by rw [List.length_map]; omega
    have okR : ∀ xs : List Int, OkD (.tuple (xs.map PyData.int)) := fun xs => .inr ⟨(lay_ints xs).1, by show PyData.depthAll (xs.map PyData.int) + 1 ≤ 5; have := (lay_ints xs).2; omega⟩
    have rl1 : ∀ xs : List Int, (∀ c ∈ xs, 0 ≤ c ∧ c < (A : Int)) → rowRes (A : Int) (.list (xs.map PyData.int)) = none := fun xs h => badV_ok h
    have rl2 : ∀ xs : List Int, (∀ c ∈ xs, 0 ≤ c ∧ c < (A : Int)) → rowRes (A : Int) (.tuple (xs.map PyData.int)) = none := fun xs h => badV_ok h
    have mok : MOk (A : Int) us := g14.mok
    have hdz : (∀ H', Same H14 H' → Dv H' (.ref g2) dz) ∧ rowRes (A : Int) dz = none ∧ intsD dz = zs ∧ (itemsD dz).length ≤ 300 ∧ OkD dz := by
      rcases hg2 with ⟨q1, rfl⟩ | ⟨q1, rfl, e0⟩
      · exact ⟨fun H' S' => .lst (S' _ _ q1) (dvAll_ints _), rl1 zs zb, i1 zs, lz zs (by omega), .inr ⟨(lay_ints zs).1, by show PyData.depthAll (zs.map PyData.int) + 1 ≤ 5; have := (lay_ints zs).2; omega⟩⟩
      · exact ⟨fun H' S' => .tup (S' _ _ q1) .nil, rfl, e0.symm, Nat.zero_le _, .inr ⟨rfl, by decide⟩⟩
    obtain ⟨Ddz, rdz, idz, ldz, kdz⟩ := hdz
    have nsz : ∀ (j : Nat) p, du[j]? = some p → ∀ z ∈ p.2, z.natAbs < 2 ^ 30 := fun j p hp z hz => by
      obtain ⟨_, _, _, _, km⟩ := fdu14 j p hp
      obtain ⟨i, _, h2⟩ := (km z).mp hz
      have inG : InR ts.length G := by
        have := effs_in RR (cat_in ob zb)
        rw [rsOf_len] at this
        rw [eG]
        exact this
      have := inG.mem z (mem_of_get h2)
      omega
    have tres : ∀ (j : Nat) p, du[j]? = some p → Told (resP p.2 b) := fun j p hp => .res _ _ (nsz j p hp) (by have := (fdu14 j p hp).2.2.2.1; omega)
    refine ⟨_, rfl, (ts.length : Int), rfl, by omega, by omega, ?_⟩
    refine for_range (lo := 0) (n := ((ts.length : Int) - 0).toNat) (fun n σ H' => (∃ v10 v14 : Option V, σ = [some (.ref sa), some (.ref d), some (.int (A : Int)), some (.ref a), some (.ref m), some (.int (ts.length : Int)), some (.ref r), some (.ref z), some (.ref o), some (.ref W), v10, some (.bl b), none, some (.ref gl), v14, none, none, none, none, none, none, none]) ∧ Same H14 H') ⟨⟨none, none, rfl⟩, Same.refl _⟩ ?_ ?_
    · rintro i σ H15 hi ⟨⟨v10, v14, rfl⟩, S15⟩
      have hi2 : i < ts.length := by omega
      obtain ⟨p, hp⟩ := dgt i hi2
      obtain ⟨np, hp14, pasc, pl, pm⟩ := fdu14 i p hp
      have g15 := g14.same S15
      have hgl15 := S15 _ _ hgl
      refine ⟨_, rfl, _, rfl, _, rfl, gl, _, 0, V.ref g0, rfl, rfl, SqL.of hgl15, rfl, _, rfl, gl, _, 1, V.ref g1, rfl, rfl, SqL.of hgl15, rfl, _, rfl, gl, _, 2, V.ref g2, rfl, rfl, SqL.of hgl15, rfl, ?_⟩
      refine ⟨m, .int (0 + (i : Int)), .ref g0, .ref g1, .ref g2, .int (0 + (i : Int)), .list (ns.map PyData.int), .list (ms.map PyData.int), dz, (A : Int), us, rfl, g15.M, mok, by omega, .int _, .lst (S15 _ _ hg0) (dvAll_ints _), .lst (S15 _ _ hg1) (dvAll_ints _), Ddz _ S15, kdz, lz ns (by omega), lz ms (by omega), ldz, fun e => ?_, fun e => ?_⟩
      · rw [isB_in (by omega) (by omega)] at e
        cases e
      rw [r3_none (rl1 ns rb) (rl1 ms ob) rdz]
      intro H16 v16 ks b' S16 D16 kasc km kb
      rw [eU, i1, i1, idz, ← eF, ← eG] at km kb
      rw [show intD (.int (0 + (i : Int))) = (i : Int) by show (0 : Int) + (i : Int) = i; omega] at km
      obtain rfl : ks = p.2 := asc_ints kasc pasc fun k => (km k).trans (pm k).symm
      obtain rfl : b' = b := Bool.eq_iff_iff.mpr (kb.trans hsure.symm)
      have tr := tres i p hp
      have S16' := S15.trans S16
      have D16' : Dv H16 v16 (resP p.2 b') := D16
      refine ⟨_, rfl, v16, resP p.2 b', rfl, tr.dp D16', .inr (tr.ref D16'), tr.sh, ?_⟩
      refine ⟨_, rfl, _, rfl, W, _, 0 + (i : Int), V.ref p.1, rfl, rfl, SqL.of (S16' _ _ hdu14), ?_, _, rfl, by show 2 ≤ sizeLine; decide, fun q hq => ⟨.ref q, resP p.2 b', rfl, .tup (SqT.of upd_same) (.cons (.tup (SqT.of (nk (S16' _ _ hp14) hq)) (dpAll_ints _)) (.cons (.bl _) .nil)), .inr ⟨_, rfl⟩, tr.sh, rfl, _, rfl, ?_⟩⟩
      · exact atI_int (by omega) (by rw [show (0 + (i : Int)).toNat = i by omega, List.getElem?_map, hp] <;> rfl)
      · exact iteS rfl ⟨⟨_, _, rfl⟩, S16'.trans (Same.new hq)⟩
    rintro σ H15 ⟨⟨v10, v14, rfl⟩, S15⟩
    have g15 := g14.same S15
    have hr15 := S15 _ _ hr14
    have hz15 := S15 _ _ hz14
    have ho15 := S15 _ _ ho14
    have Dr : ∀ {H'}, H' r = some (.tup (ns.map V.int)) → Dv H' (.ref r) (.tuple (ns.map PyData.int)) := fun h => .tup h (dvAll_ints _)
    have Do : ∀ {H'}, H' o = some (.tup (ms.map V.int)) → Dv H' (.ref o) (.tuple (ms.map PyData.int)) := fun h => .tup h (dvAll_ints _)
    have Dz : ∀ {H'}, H' z = some (.tup (zs.map V.int)) → Dv H' (.ref z) (.tuple (zs.map PyData.int)) := fun h => .tup h (dvAll_ints _)
    refine norm (σ' := [some (.ref sa), some (.ref d), some (.int (A : Int)), some (.ref a), some (.ref m), some (.int (ts.length : Int)), some (.ref r), some (.ref z), some (.ref o), some (.ref W), v10, some (.bl b), none, some (.ref gl), v14, none, none, none, none, none, none, none]) rfl ?_
    refine ⟨_, rfl, _, rfl, _, rfl, _, rfl, rfl, rfl, m, .ref r, .ref o, .ref z, .tuple (ns.map PyData.int), .tuple (ms.map PyData.int), .tuple (zs.map PyData.int), (A : Int), us, rfl, g15.M, mok, Dr hr15, Do ho15, .inl (Dz hz15), lz ns (by omega), lz ms (by omega), lz zs (by omega), ?_⟩
    rw [r3_none (rl2 ns rb) (rl2 ms ob) (rl2 zs zb)]
    intro H16 b' S16 hb'
    rw [eU, i2, i2, i2, ← eF, ← eG] at hb'
    obtain rfl : b' = b := Bool.eq_iff_iff.mpr (hb'.trans hsure.symm)
    refine ⟨b', rfl, _, rfl, b', rfl, rfl, _, rfl, ?_⟩
    refine iteS rfl ?_
    have S16' := S15.trans S16
    have hgl16 := S16' _ _ hgl
    have hg016 := S16' _ _ hg0
    have g16 := g14.same S16'
    refine ⟨_, rfl, gl, _, 0, V.ref g0, rfl, rfl, SqL.of hgl16, rfl, .inl ⟨rfl, _, SqL.of hg016⟩, g0, _, V.int 0, rfl, rfl, hg016, ?_, ?_⟩
    · rw [List.length_map]
      exact Nat.lt_of_le_of_lt (show ns.length ≤ 10 by omega) (by decide)
    obtain ⟨H17, e17⟩ : ∃ U, U = upd H16 g0 (.lst (ns.map V.int ++ [V.int 0])) := ⟨_, rfl⟩
    rw [← e17]
    have ne0 : ∀ {q : Addr} {u : HO}, H'' q = some u → q ≠ g0 := fun h e => by
      rw [e, g00] at h
      cases h
    have up17 : ∀ {q : Addr} {u : HO}, H'' q = some u → H16 q = some u → H17 q = some u := fun h h2 => by
      rw [e17, upd_ne (ne0 h)]
      exact h2
    have n17 : NL H16 H17 := by
      rw [e17]
      exact NL.upd hg016
    have tp17 : ∀ {q : Addr} {xs : List V}, H16 q = some (.tup xs) → H17 q = some (.tup xs) := fun h => n17 _ _ h (fun xs e => by cases e)
    have D17 : DealAt H17 d l := by
      rw [e17]
      exact g16.D.kp (S := fun q => q = g0) (fun q u h n => (upd_ne n).trans h) (fun q hq e => g13.D.free g00 (e ▸ hq))
    have g17 : Game CM H17 d l a m A ts us := ⟨D17, ⟨up17 g13.G.top g16.G.top, fun u hu' => up17 (g13.G.row u hu') (g16.G.row u hu')⟩, na, nt, R2, h0, by omega, by omega, g16.M.nl n17, eU⟩
    have hr17 := tp17 (S16' _ _ hr14)
    have hz17 := tp17 (S16' _ _ hz14)
    have ho17 := tp17 (S16' _ _ ho14)
    have hdu17 := up17 (S12 _ _ hdu) (S16' _ _ hdu14)
    have hgl17 : H17 gl = some (.lst [.ref g0, .ref g1, .ref g2]) := by
      rw [e17, upd_ne (fun e => ?_)]
      · exact hgl16
      · rw [e, hg0] at hgl
        have q := congrArg (fun o : Option HO => match o with | some (.lst xs) => xs.head? | _ => none) hgl
        cases ns with
        | nil => cases q
        | cons c cs => cases q
    have hg017 : H17 g0 = some (.lst ((ns ++ [0]).map V.int)) := by
      rw [e17, List.map_append]
      exact upd_same
    have du17 : ∀ (j : Nat) p, du[j]? = some p → H17 p.1 = some (.tup (p.2.map V.int)) := fun j p hp => tp17 (S16' _ _ (fdu14 j p hp).2.1)
    have b0 : ∀ c ∈ ns ++ [0], 0 ≤ c ∧ c < (A : Int) := fun c hc => by
      rcases List.mem_append.mp hc with h | h
      · exact rb c h
      · rw [List.mem_singleton.mp h]
        omega
    have l0 : (ns ++ [0]).length ≤ 250 := by
      rw [List.length_append]
      show ns.length + 1 ≤ 250
      omega
    have L0 : (itemsD (.list ((ns ++ [(0 : Int)]).map PyData.int))).length ≤ 300 := lz _ l0
    have nb0 : isB (us.length : Int) (.int 0) = true := isB_in (by decide) (by omega)
    -- longer
    refine ⟨_, rfl, _, rfl, by show 1 ≤ sizeLine; decide, fun q18 hq18 => ?_⟩
    have S18a : Same H17 _ := Same.new (o := HO.tup [V.int 0]) hq18
    refine catA (S18a _ _ hr17) upd_same ?_ fun H18 a18 S18b h18 => ?_
    · rw [List.length_map]
      exact Nat.le_trans (show ns.length + 1 ≤ 250 by omega) (by decide)
    have S18 := S18a.trans S18b
    have h18' : H18 a18 = some (.tup ((ns ++ [0]).map V.int)) := by
      rw [List.map_append]
      exact h18
    refine ⟨_, rfl, _, rfl, a, a18, o, z, 0, A, ts, ns ++ [0], ms, zs, rfl, (g17.same S18).G, R2, by omega, h18', S18 _ _ ho17, S18 _ _ hz17, by omega, by omega, by omega, b0, ob, zb, fun H19 p19 k19 S19 _ h19 a19 l19 m19 => ?_⟩
    have S19' := S18.trans S19
    -- told of the longer row
    refine ⟨_, rfl, _, rfl, gl, _, 0, V.ref g0, rfl, rfl, SqL.of (S19' _ _ hgl17), rfl, _, rfl, _, rfl, rfl, rfl, ?_⟩
    refine ⟨m, .int 0, .ref g0, .ref o, .ref z, .int 0, .list ((ns ++ [(0 : Int)]).map PyData.int), .tuple (ms.map PyData.int), .tuple (zs.map PyData.int), (A : Int), us, rfl, (g17.same S19').M, mok, by omega, .int _, .lst (S19' _ _ hg017) (dvAll_ints _), Do (S19' _ _ ho17), .inl (Dz (S19' _ _ hz17)), L0, lz ms (by omega), lz zs (by omega), fun e => ?_, fun _ => ?_⟩
    · rw [nb0] at e
      cases e
    rw [r3_none (rl1 _ b0) (rl2 ms ob) (rl2 zs zb)]
    intro H20 t20 k20 S20 h20 a20 m20
    rw [eU, i1, i2, i2] at m20
    have m20' : ∀ k, k ∈ k20 ↔ Should (effs (rsOf ts) (ns ++ [0] ++ zs)) (effs (rsOf ts) (ms ++ zs)) 0 k := m20
    obtain rfl : k20 = k19 := asc_ints a20 a19 fun k => (m20' k).trans (m19 k).symm
    have sz : ∀ {xs ys : List Int} {now : Int} {ks : List Int}, (∀ c ∈ xs, 0 ≤ c ∧ c < (A : Int)) → (∀ k, k ∈ ks ↔ Should ys (effs (rsOf ts) xs) now k) → ∀ k ∈ ks, k.natAbs < 2 ^ 30 := fun hx hk k hk2 => by
      obtain ⟨i, _, h2⟩ := (hk k).mp hk2
      have := (effs_in RR hx).mem k (mem_of_get h2)
      rw [rsOf_len] at this
      omega
    have t20' : Told (intsP k20) := .tup _ (sz (cat_in ob zb) m19) (by omega)
    have S20' := S19'.trans S20
    refine ⟨.ref t20, intsP k20, rfl, .tup (SqT.of h20) (dpAll_ints _), .inr ⟨_, rfl⟩, t20'.sh, _, rfl, .ref p19, intsP k20, rfl, .tup (SqT.of (S20 _ _ h19)) (dpAll_ints _), .inr ⟨_, rfl⟩, t20'.sh, rfl, _, rfl, ?_⟩
    refine iteS rfl ?_
    -- told of the row once more
    refine ⟨_, rfl, _, rfl, _, rfl, _, rfl, rfl, rfl, ?_⟩
    refine ⟨m, .int 0, .ref r, .ref o, .ref z, .int 0, .tuple (ns.map PyData.int), .tuple (ms.map PyData.int), .tuple (zs.map PyData.int), (A : Int), us, rfl, (g17.same S20').M, mok, by omega, .int _, Dr (S20' _ _ hr17), Do (S20' _ _ ho17), .inl (Dz (S20' _ _ hz17)), lz ns (by omega), lz ms (by omega), lz zs (by omega), fun e => ?_, fun _ => ?_⟩
    · rw [nb0] at e
      cases e
    rw [r3_none (rl2 ns rb) (rl2 ms ob) (rl2 zs zb)]
    intro H21 t21 k21 S21 h21 a21 m21
    rw [eU, i2, i2, i2, ← eF, ← eG] at m21
    obtain ⟨p0, hp0⟩ := dgt 0 hp
    obtain ⟨np0, hp014, pasc0, pl0, pm0⟩ := fdu14 0 p0 hp0
    obtain rfl : k21 = p0.2 := asc_ints a21 pasc0 fun k => (m21 k).trans (pm0 k).symm
    have t21' : Told (intsP p0.2) := .tup _ (nsz 0 p0 hp0) (by omega)
    have S21' := S20'.trans S21
    refine ⟨.ref t21, intsP p0.2, rfl, .tup (SqT.of h21) (dpAll_ints _), .inr ⟨_, rfl⟩, t21'.sh, _, rfl, W, _, 0, V.ref p0.1, rfl, rfl, SqL.of (S21' _ _ hdu17), atI_int (by decide) (by rw [show (0 : Int).toNat = 0 from rfl, List.getElem?_map, hp0] <;> rfl), .ref p0.1, intsP p0.2, rfl, .tup (SqT.of (S21' _ _ (du17 0 p0 hp0))) (dpAll_ints _), .inr ⟨_, rfl⟩, t21'.sh, rfl, _, rfl, ?_⟩
    refine iteS rfl ?_
    -- a row may be taken for itself
    refine ⟨_, rfl, _, rfl, _, rfl, _, rfl, rfl, rfl, m, .ref r, .ref r, .ref z, .tuple (ns.map PyData.int), .tuple (ns.map PyData.int), .tuple (zs.map PyData.int), (A : Int), us, rfl, (g17.same S21').M, mok, Dr (S21' _ _ hr17), Dr (S21' _ _ hr17), .inl (Dz (S21' _ _ hz17)), lz ns (by omega), lz ns (by omega), lz zs (by omega), ?_⟩
    rw [r3_none (rl2 ns rb) (rl2 ns rb) (rl2 zs zb)]
    intro H22 b22 S22 hb22
    obtain rfl : b22 = true := hb22.mpr np_self
    refine ⟨true, rfl, iteF ?_⟩
    have S22' := S21'.trans S22
    refine ⟨_, rfl, _, rfl, _, rfl, m, .ref o, .ref o, .ref pd, .tuple (ms.map PyData.int), .tuple (ms.map PyData.int), .tuple [], (A : Int), us, rfl, (g17.same S22').M, mok, Do (S22' _ _ ho17), Do (S22' _ _ ho17), .inr ⟨pd, rfl, W0, rfl⟩, lz ms (by omega), lz ms (by omega), Nat.zero_le _, ?_⟩
    rw [r3_none (rl2 ms ob) (rl2 ms ob) rfl]
    intro H23 b23 S23 hb23
    obtain rfl : b23 = true := hb23.mpr np_self
    refine ⟨true, rfl, iteF ?_⟩
    have S23' := S22'.trans S23
    have g23 := g17.same S23'
    have hr23 := S23' _ _ hr17
    have hz23 := S23' _ _ hz17
    have ho23 := S23' _ _ ho17
    have hdu23 := S23' _ _ hdu17
    -- what is wrong
    refine ⟨_, rfl, _, rfl, _, rfl, d, l, r, (A : Int), ns, rfl, g23.D, hr23, nr, by omega, by omega, by omega, rb, fun H24 t0' v0 e0 k0 D24 S24 t00 ht0 K0 z0' rr0 ok0 kk0 => ?_⟩
    have g24 := g23.go D24 S24
    have nt0 : ¬ dl d l t0' := g23.D.free t00
    refine ⟨_, rfl, _, rfl, _, rfl, d, l, o, (A : Int), ms, rfl, g24.D, S24.kp.get no ho23, no, by omega, by omega, by omega, ob, fun H25 t1' v1 e1 k1 D25 S25 t10 ht1 K1 z1' rr1 ok1 kk1 => ?_⟩
    have g25 := g24.go D25 S25
    have nt1 : ¬ dl d l t1' := g24.D.free t10
    have S245 := S24.trans S25
    refine ⟨_, rfl, _, rfl, _, rfl, d, l, z, (A : Int), zs, rfl, g25.D, S245.kp.get nz hz23, nz, by omega, by omega, by omega, zb, fun H26 t2' v2 e2 k2 D26 S26 t20 ht2 K2 z2' rr2 ok2 kk2 => ?_⟩
    have g26 := g25.go D26 S26
    have nt2 : ¬ dl d l t2' := g25.D.free t20
    have S246 := S245.trans S26
    refine ⟨by show 3 ≤ sizeLine; decide, fun wl hwl => ?_⟩
    have g27 := g26.new (o := HO.lst [V.ref t0', V.ref t1', V.ref t2']) hwl
    have nwl : ¬ dl d l wl := g26.D.free hwl
    have Sw : SB d l H26 _ := SB.new (o := HO.lst [V.ref t0', V.ref t1', V.ref t2']) hwl
    have S247 := S246.trans Sw
    -- [some (.ref sa), some (.ref d), some (.int (A : Int)), some (.ref a), some (.ref m), some (.int (ts.length : Int)), some (.ref r), some (.ref z), some (.ref o), some (.ref W), v10, some (.bl b), none, some (.ref gl), v14, none, some (.ref wl), none, none, none, none, none]
    refine ⟨_, rfl, _, rfl, _, rfl, by show 1 ≤ sizeLine; decide, fun p4 h4 => ⟨by show 6 ≤ sizeLine; decide, fun p5 h5 => ?_⟩⟩
    have D28 := (g27.D.new (o := HO.tup [V.int 0]) h4).new (o := HO.lst [V.int (ts.length : Int), V.int (-1), V.non, V.bl true, V.str "0", V.ref p4]) h5
    have S28 := (SB.new (d := d) (l := l) (o := HO.tup [V.int 0]) h4).trans (SB.new (d := d) (l := l) (o := HO.lst [V.int (ts.length : Int), V.int (-1), V.non, V.bl true, V.str "0", V.ref p4]) h5)
    refine ⟨d, l, p5, _, rfl, upd_same, (g27.D.new (o := HO.tup [V.int 0]) h4).free h5, by show 0 < 6; decide, by show 6 ≤ 1000; decide, D28, fun H29 io vo D29 S29 hvo => ?_⟩
    have n4 : ¬ dl d l p4 := g27.D.free h4
    have h429 : H29 p4 = some (.tup [V.int 0]) := S29.kp.get n4 (nk upd_same h5)
    obtain ⟨eo, heo, Ko⟩ : ∃ eo, isB (ts.length : Int) eo = false ∧ KDv d l H29 vo eo := pick6 (P := fun v => ∃ eo, isB (ts.length : Int) eo = false ∧ KDv d l H29 v eo) hvo ⟨.int (ts.length : Int), isB_self, fun _ _ => .int _⟩ ⟨.int (-1), rfl, fun _ _ => .int _⟩ ⟨.none, rfl, fun _ _ => .non⟩ ⟨.bool true, rfl, fun _ _ => .bl _⟩ ⟨.str "0", rfl, fun _ _ => .str _⟩ ⟨.tuple [.int 0], rfl, fun U SU => .tup (SU.kp.get n4 h429) (.cons (.int 0) .nil)⟩
    refine ⟨_, rfl, d, l, 3, rfl, by decide, by decide, D29, fun HA pl' DA S30 pl0' pl1' => ⟨_, _, rfl, ?_⟩⟩
    have SA := S247.trans ((S28.trans S29).trans S30)
    have gA := g23.go DA SA
    have SwA := (S28.trans S29).trans S30
    have hrA := SA.kp.get nr hr23
    have hzA := SA.kp.get nz hz23
    have hoA := SA.kp.get no ho23
    have hduA := SA.kp.get nW hdu23
    have duA : ∀ (j : Nat) p, du[j]? = some p → HA p.1 = some (.tup (p.2.map V.int)) := fun j p hp => SA.kp.get (fdu14 j p hp).1 (S23' _ _ (du17 j p hp))
    have hwA : HA wl = some (.lst [V.ref t0', V.ref t1', V.ref t2']) := SwA.kp.get nwl upd_same
    have ht0A : HA t0' = some (.tup [v0, .int (k0 : Int)]) := (((S25.trans S26).trans Sw).trans SwA).kp.get nt0 ht0
    have ht1A : HA t1' = some (.tup [v1, .int (k1 : Int)]) := ((S26.trans Sw).trans SwA).kp.get nt1 ht1
    have ht2A : HA t2' = some (.tup [v2, .int (k2 : Int)]) := (Sw.trans SwA).kp.get nt2 ht2
    have O0 : Okay d l HA v0 e0 := ⟨K0.go (((S25.trans S26).trans Sw).trans SwA), z0', ok0⟩
    have O1 : Okay d l HA v1 e1 := ⟨K1.go ((S26.trans Sw).trans SwA), z1', ok1⟩
    have O2 : Okay d l HA v2 e2 := ⟨K2.go (Sw.trans SwA), z2', ok2⟩
    have Or : Okay d l HA (.ref r) (.tuple (ns.map PyData.int)) := ⟨fun U SU => Dr (SU.kp.get nr hrA), lz ns (by omega), okR ns⟩
    have Oo : Okay d l HA (.ref o) (.tuple (ms.map PyData.int)) := ⟨fun U SU => Do (SU.kp.get no hoA), lz ms (by omega), okR ms⟩
    have Oz : Okay d l HA (.ref z) (.tuple (zs.map PyData.int)) := ⟨fun U SU => Dz (SU.kp.get nz hzA), lz zs (by omega), okR zs⟩
    have KoA := Ko.go S30
    refine norm (σ' := [some (.ref sa), some (.ref d), some (.int (A : Int)), some (.ref a), some (.ref m), some (.int (ts.length : Int)), some (.ref r), some (.ref z), some (.ref o), some (.ref W), v10, some (.bl b'), none, some (.ref gl), v14, some (.ref p19), some (.ref wl), some vo, some (.int pl'), none, none, none]) rfl ?_
    refine ⟨_, rfl, _, rfl, _, rfl, by show 3 ≤ sizeLine; decide, fun rl' hrl => ⟨_, _, rfl, ?_⟩⟩
    have nrl : ¬ dl d l rl' := DA.free hrl
    refine norm (σ' := [some (.ref sa), some (.ref d), some (.int (A : Int)), some (.ref a), some (.ref m), some (.int (ts.length : Int)), some (.ref r), some (.ref z), some (.ref o), some (.ref W), v10, some (.bl b'), none, some (.ref gl), v14, some (.ref p19), some (.ref wl), some vo, some (.int pl'), some (.ref rl'), some (.non), none]) rfl ?_
    -- some of them are wrong
    refine ⟨3, rfl, by decide, by decide, ?_⟩
    refine for_range (lo := 0) (n := 3) (fun n σ H' => ∃ (v21 : Option V) (x0 x1 x2 : V) (d0 d1 d2 : PyData) (ro : Option Nat), σ = [some (.ref sa), some (.ref d), some (.int (A : Int)), some (.ref a), some (.ref m), some (.int (ts.length : Int)), some (.ref r), some (.ref z), some (.ref o), some (.ref W), v10, some (.bl b'), none, some (.ref gl), v14, some (.ref p19), some (.ref wl), some vo, some (.int pl'), some (.ref rl'), some (fV ro), v21] ∧ SB d l HA H' ∧ DealAt H' d l ∧ H' rl' = some (.lst [x0, x1, x2]) ∧ Okay d l HA x0 d0 ∧ Okay d l HA x1 d1 ∧ Okay d l HA x2 d2 ∧ r3 (A : Int) d0 d1 d2 = ro ∧ (n ≤ 0 → rowRes (A : Int) d0 = none) ∧ (n ≤ 1 → rowRes (A : Int) d1 = none) ∧ (n ≤ 2 → rowRes (A : Int) d2 = none) ∧ (pl' < (n : Int) → ro ≠ none) ∧ (∀ k, ro = some k → k ≤ 250))
      ⟨none, .ref r, .ref o, .ref z, _, _, _, none, rfl, SB.new hrl, DA.new hrl, upd_same, Or, Oo, Oz, r3_none (rl2 ns rb) (rl2 ms ob) (rl2 zs zb), fun _ => rl2 ns rb, fun _ => rl2 ms ob, fun _ => rl2 zs zb, fun h => by omega, fun k hk => by cases hk⟩ ?_ ?_
    · rintro i σ H' hi ⟨v21, x0, x1, x2, d0, d1, d2, ro, rfl, SI, DI, hI, Q0, Q1, Q2, hro, q0, q1, q2, hpl, hrk⟩
      have hlen : ∀ H'', SB d l H' H'' → H'' rl' = some (.lst [x0, x1, x2]) := fun H'' S'' => S''.kp.get nrl hI
      refine joinNameIf2 (by with_reducible rfl) (fun H'' => SB d l H' H'' ∧ DealAt H'' d l) (fun H'' => SB d l H' H'' ∧ DealAt H'' d l ∧ pl' ≠ (i : Int)) (fun Q' kT kF => ?_) (fun H'' hR => ?_) (fun H'' hR => ?_)
      · refine ⟨_, rfl, _, rfl, ?_⟩
        by_cases he : (0 + (i : Int)) = pl'
        · refine ⟨rfl, true, congrArg V.bl (decide_eq_true (show V.int (0 + (i : Int)) = V.int pl' by rw [he])), iteT (kT _ ⟨SB.refl _ _ _, DI⟩)⟩
        · refine ⟨rfl, false, congrArg V.bl (decide_eq_false (show ¬ V.int (0 + (i : Int)) = V.int pl' from fun q => he (by injection q))), iteF ?_⟩
          refine ⟨_, rfl, d, l, 2, rfl, by decide, by decide, DI, fun H'' x D'' S'' x0' x1' => ?_⟩
          by_cases hx : x = 0
          · exact ⟨rfl, true, congrArg V.bl (decide_eq_true (show V.int x = V.int 0 by rw [hx])), (kT _ ⟨S'', D''⟩)⟩
          · exact ⟨rfl, false, congrArg V.bl (decide_eq_false (show ¬ V.int x = V.int 0 from fun q => hx (by injection q))), (kF _ ⟨S'', D'', fun q => he (by omega)⟩)⟩
      · obtain ⟨SR, DR⟩ := hR
        have SIR := SI.trans SR
        have hI2 := hlen _ SR
        rcases (show i = 0 ∨ i = 1 ∨ i = 2 by omega) with rfl | rfl | rfl
        · refine ⟨_, rfl, _, rfl, wl, _, 0 + ((0 : Nat) : Int), V.ref t0', rfl, rfl, SqL.of (SIR.kp.get nwl hwA), rfl, t0', _, 0, v0, rfl, rfl, SqT.of (SIR.kp.get nt0 ht0A), rfl, _, rfl, _, rfl, rl', _, 0 + ((0 : Nat) : Int), 0, rfl, rfl, hI2, rfl, ?_⟩
          have DU : DealAt (upd H'' rl' (HO.lst [v0, x1, x2])) d l := DR.kp (S := fun q => q = rl') (fun q u h n => (upd_ne n).trans h) (fun q hq e => nrl (e ▸ hq))
          have SU : SB d l HA (upd H'' rl' (HO.lst [v0, x1, x2])) := fun q u h n1 n2 => by
            rw [upd_ne (fun e => by rw [e, hrl] at h; cases h)]
            exact SIR q u h n1 n2
          have nr3 := r3_s0 (q0 (by omega)) (q1 (by omega)) (q2 (by omega)) rr0 (A := (A : Int))
          rw [hro] at nr3
          cases ro with
          | none =>
            refine ⟨_, rfl, rfl, _, rfl, iteF ⟨_, rfl, _, rfl, wl, _, 0 + ((0 : Nat) : Int), V.ref t0', rfl, rfl, SqL.of (SU.kp.get nwl hwA), rfl, t0', _, 1, V.int (k0 : Int), rfl, rfl, SqT.of (SU.kp.get nt0 ht0A), rfl, ?_⟩⟩
            exact ⟨_, v0, x1, x2, e0, d1, d2, some k0, rfl, SU, DU, upd_same, O0, Q1, Q2, nr3, fun h => absurd h (by decide), fun _ => q1 (by omega), fun _ => q2 (by omega), (fun _ e => by cases e), fun k' hk' => by
              rw [← Option.some.inj hk']
              exact kk0⟩
          | some ko =>
            refine ⟨_, rfl, rfl, _, rfl, iteT ⟨_, rfl, ?_⟩⟩
            exact ⟨_, v0, x1, x2, e0, d1, d2, some ko, rfl, SU, DU, upd_same, O0, Q1, Q2, nr3, fun h => absurd h (by decide), fun _ => q1 (by omega), fun _ => q2 (by omega), (fun _ e => by cases e), fun k' hk' => by
              rw [← Option.some.inj hk']
              exact hrk ko rfl⟩
        · refine ⟨_, rfl, _, rfl, wl, _, 0 + ((1 : Nat) : Int), V.ref t1', rfl, rfl, SqL.of (SIR.kp.get nwl hwA), rfl, t1', _, 0, v1, rfl, rfl, SqT.of (SIR.kp.get nt1 ht1A), rfl, _, rfl, _, rfl, rl', _, 0 + ((1 : Nat) : Int), 1, rfl, rfl, hI2, rfl, ?_⟩
          have DU : DealAt (upd H'' rl' (HO.lst [x0, v1, x2])) d l := DR.kp (S := fun q => q = rl') (fun q u h n => (upd_ne n).trans h) (fun q hq e => nrl (e ▸ hq))
          have SU : SB d l HA (upd H'' rl' (HO.lst [x0, v1, x2])) := fun q u h n1 n2 => by
            rw [upd_ne (fun e => by rw [e, hrl] at h; cases h)]
            exact SIR q u h n1 n2
          have nr3 := r3_s1 (a := d0) (q1 (by omega)) (q2 (by omega)) rr1 (A := (A : Int))
          rw [hro] at nr3
          cases ro with
          | none =>
            refine ⟨_, rfl, rfl, _, rfl, iteF ⟨_, rfl, _, rfl, wl, _, 0 + ((1 : Nat) : Int), V.ref t1', rfl, rfl, SqL.of (SU.kp.get nwl hwA), rfl, t1', _, 1, V.int (k1 : Int), rfl, rfl, SqT.of (SU.kp.get nt1 ht1A), rfl, ?_⟩⟩
            exact ⟨_, x0, v1, x2, d0, e1, d2, some k1, rfl, SU, DU, upd_same, Q0, O1, Q2, nr3, fun h => absurd h (by decide), fun h => absurd h (by decide), fun _ => q2 (by omega), (fun _ e => by cases e), fun k' hk' => by
              rw [← Option.some.inj hk']
              exact kk1⟩
          | some ko =>
            refine ⟨_, rfl, rfl, _, rfl, iteT ⟨_, rfl, ?_⟩⟩
            exact ⟨_, x0, v1, x2, d0, e1, d2, some ko, rfl, SU, DU, upd_same, Q0, O1, Q2, nr3, fun h => absurd h (by decide), fun h => absurd h (by decide), fun _ => q2 (by omega), (fun _ e => by cases e), fun k' hk' => by
              rw [← Option.some.inj hk']
              exact hrk ko rfl⟩
        · refine ⟨_, rfl, _, rfl, wl, _, 0 + ((2 : Nat) : Int), V.ref t2', rfl, rfl, SqL.of (SIR.kp.get nwl hwA), rfl, t2', _, 0, v2, rfl, rfl, SqT.of (SIR.kp.get nt2 ht2A), rfl, _, rfl, _, rfl, rl', _, 0 + ((2 : Nat) : Int), 2, rfl, rfl, hI2, rfl, ?_⟩
          have DU : DealAt (upd H'' rl' (HO.lst [x0, x1, v2])) d l := DR.kp (S := fun q => q = rl') (fun q u h n => (upd_ne n).trans h) (fun q hq e => nrl (e ▸ hq))
          have SU : SB d l HA (upd H'' rl' (HO.lst [x0, x1, v2])) := fun q u h n1 n2 => by
            rw [upd_ne (fun e => by rw [e, hrl] at h; cases h)]
            exact SIR q u h n1 n2
          have nr3 := r3_s2 (a := d0) (b := d1) (q2 (by omega)) rr2 (A := (A : Int))
          rw [hro] at nr3
          cases ro with
          | none =>
            refine ⟨_, rfl, rfl, _, rfl, iteF ⟨_, rfl, _, rfl, wl, _, 0 + ((2 : Nat) : Int), V.ref t2', rfl, rfl, SqL.of (SU.kp.get nwl hwA), rfl, t2', _, 1, V.int (k2 : Int), rfl, rfl, SqT.of (SU.kp.get nt2 ht2A), rfl, ?_⟩⟩
            exact ⟨_, x0, x1, v2, d0, d1, e2, some k2, rfl, SU, DU, upd_same, Q0, Q1, O2, nr3, fun h => absurd h (by decide), fun h => absurd h (by decide), fun h => absurd h (by decide), (fun _ e => by cases e), fun k' hk' => by
              rw [← Option.some.inj hk']
              exact kk2⟩
          | some ko =>
            refine ⟨_, rfl, rfl, _, rfl, iteT ⟨_, rfl, ?_⟩⟩
            exact ⟨_, x0, x1, v2, d0, d1, e2, some ko, rfl, SU, DU, upd_same, Q0, Q1, O2, nr3, fun h => absurd h (by decide), fun h => absurd h (by decide), fun h => absurd h (by decide), (fun _ e => by cases e), fun k' hk' => by
              rw [← Option.some.inj hk']
              exact hrk ko rfl⟩
      · obtain ⟨SR, DR, hpi⟩ := hR
        exact ⟨_, x0, x1, x2, d0, d1, d2, ro, rfl, SI.trans SR, DR, hlen _ SR, Q0, Q1, Q2, hro, fun h => q0 (by omega), fun h => q1 (by omega), fun h => q2 (by omega), fun h => hpl (by omega), hrk⟩
    rintro σ H50 ⟨v21, x0, x1, x2, d0, d1, d2, ro, rfl, SI, DI, hI, Q0, Q1, Q2, hro, _, _, _, hpl, hrk⟩
    obtain ⟨kf, rfl⟩ : ∃ kf, ro = some kf := by
      cases ro with
      | none => exact absurd rfl (hpl (by omega))
      | some k => exact ⟨k, rfl⟩
    have hkf := hrk kf rfl
    refine norm (σ' := [some (.ref sa), some (.ref d), some (.int (A : Int)), some (.ref a), some (.ref m), some (.int (ts.length : Int)), some (.ref r), some (.ref z), some (.ref o), some (.ref W), v10, some (.bl b'), none, some (.ref gl), v14, some (.ref p19), some (.ref wl), some vo, some (.int pl'), some (.ref rl'), some (.int (kf : Int)), v21]) rfl ?_
    refine ⟨_, rfl, _, rfl, d, l, (ts.length : Int), rfl, by omega, by omega, DI, fun H51 nw D51 S51 nw0 nw1 => ?_⟩
    have SA51 := SI.trans S51
    have g51 := gA.go D51 SA51
    have hI51 := S51.kp.get nrl hI
    have hr51 := SA51.kp.get nr hrA
    have hz51 := SA51.kp.get nz hzA
    have ho51 := SA51.kp.get no hoA
    have tk' : Told (rwP (kf : Int)) := .row _ (by omega)
    have tf : Told (refuP 0) := .refu
    have nwB : isB (us.length : Int) (.int nw) = true := isB_in nw0 (by omega)
    have heo' : isB (us.length : Int) eo = false := by
      rw [lU]
      exact heo
    -- [some (.ref sa), some (.ref d), some (.int (A : Int)), some (.ref a), some (.ref m), some (.int (ts.length : Int)), some (.ref r), some (.ref z), some (.ref o), some (.ref W), some (.int nw), some (.bl b'), none, some (.ref gl), v14, some (.ref p19), some (.ref wl), some vo, some (.int pl'), some (.ref rl'), some (.int (kf : Int)), v21]
    refine ⟨_, rfl, _, rfl, _, rfl, rl', _, 0, x0, rfl, rfl, SqL.of hI51, rfl, _, rfl, rl', _, 1, x1, rfl, rfl, SqL.of hI51, rfl, _, rfl, rl', _, 2, x2, rfl, rfl, SqL.of hI51, rfl, ?_⟩
    refine ⟨m, .int nw, x0, x1, x2, .int nw, d0, d1, d2, (A : Int), us, rfl, g51.M, mok, by omega, .int _, Q0.k _ SA51, Q1.k _ SA51, Q2.k _ SA51, Q2.o, Q0.z, Q1.z, Q2.z, fun e => ?_, fun _ => ?_⟩
    · rw [nwB] at e
      cases e
    rw [hro]
    intro H52 v52 S52 D52
    refine ⟨v52, rwP (kf : Int), rfl, tk'.dp D52, .inr (tk'.ref D52), tk'.sh, _, rfl, by show 2 ≤ sizeLine; decide, fun q52 hq52 => ⟨.ref q52, rwP (kf : Int), rfl, .tup (SqT.of upd_same) (.cons (.str _) (.cons (.int _) .nil)), .inr ⟨_, rfl⟩, tk'.sh, rfl, _, rfl, ?_⟩⟩
    refine iteS rfl ?_
    have S53 := S52.trans (Same.new (o := HO.tup [V.str "row", V.int (kf : Int)]) hq52)
    have SA53 := SA51.trans (sbS (d := d) (l := l) S53)
    refine ⟨_, rfl, _, rfl, _, rfl, rl', _, 0, x0, rfl, rfl, SqL.of (S53 _ _ hI51), rfl, _, rfl, rl', _, 1, x1, rfl, rfl, SqL.of (S53 _ _ hI51), rfl, _, rfl, rl', _, 2, x2, rfl, rfl, SqL.of (S53 _ _ hI51), rfl, ?_⟩
    refine ⟨m, vo, x0, x1, x2, eo, d0, d1, d2, (A : Int), us, rfl, (g51.same S53).M, mok, by omega, KoA _ SA53, Q0.k _ SA53, Q1.k _ SA53, Q2.k _ SA53, Q2.o, Q0.z, Q1.z, Q2.z, fun _ => ?_, fun e => ?_⟩
    rotate_left
    · rw [heo'] at e
      cases e
    intro H54 v54 S54 D54
    refine ⟨v54, refuP 0, rfl, tf.dp D54, .inr (tf.ref D54), tf.sh, by show 2 ≤ sizeLine; decide, fun q54 hq54 => ⟨.ref q54, refuP 0, rfl, .tup (SqT.of upd_same) (.cons (.str _) (.cons (.int _) .nil)), .inr ⟨_, rfl⟩, tf.sh, rfl, _, rfl, ?_⟩⟩
    refine iteS rfl ?_
    have S55 := S53.trans (S54.trans (Same.new (o := HO.tup [V.str "refused", V.int 0]) hq54))
    have SA55 := SA51.trans (sbS (d := d) (l := l) S55)
    refine ⟨_, rfl, _, rfl, _, rfl, _, rfl, _, rfl, m, vo, .ref r, .ref o, .ref z, eo, .tuple (ns.map PyData.int), .tuple (ms.map PyData.int), .tuple (zs.map PyData.int), (A : Int), us, rfl, (g51.same S55).M, mok, by omega, KoA _ SA55, Dr (S55 _ _ hr51), Do (S55 _ _ ho51), Dz (S55 _ _ hz51), okR zs, lz ns (by omega), lz ms (by omega), lz zs (by omega), fun _ => ?_, fun e => ?_⟩
    rotate_left
    · rw [heo'] at e
      cases e
    intro H56 v56 S56 D56
    refine ⟨v56, refuP 0, rfl, tf.dp D56, .inr (tf.ref D56), tf.sh, by show 2 ≤ sizeLine; decide, fun q56 hq56 => ⟨.ref q56, refuP 0, rfl, .tup (SqT.of upd_same) (.cons (.str _) (.cons (.int _) .nil)), .inr ⟨_, rfl⟩, tf.sh, rfl, _, rfl, ?_⟩⟩
    refine iteS rfl ?_
    have S57 := S55.trans (S56.trans (Same.new (o := HO.tup [V.str "refused", V.int 0]) hq56))
    obtain ⟨jn, ejn⟩ : ∃ jn : Nat, nw = (jn : Int) := ⟨nw.toNat, by omega⟩
    obtain ⟨pn, hpn⟩ := dgt jn (by omega)
    obtain ⟨npn, hpn14, pasc, pl, pm⟩ := fdu14 jn pn hpn
    refine ⟨_, rfl, _, rfl, _, rfl, _, rfl, _, rfl, m, .int nw, .ref r, .ref o, .ref z, .int nw, .tuple (ns.map PyData.int), .tuple (ms.map PyData.int), .tuple (zs.map PyData.int), (A : Int), us, rfl, (g51.same S57).M, mok, by omega, .int _, Dr (S57 _ _ hr51), Do (S57 _ _ ho51), Dz (S57 _ _ hz51), okR zs, lz ns (by omega), lz ms (by omega), lz zs (by omega), fun e => ?_, fun _ => ?_⟩
    · rw [nwB] at e
      cases e
    rw [r3_none (rl2 ns rb) (rl2 ms ob) (rl2 zs zb)]
    intro H58 v58 ks bz S58 D58 kasc km kb
    rw [eU, i2, i2, i2, ← eF, ← eG] at km kb
    rw [show intD (.int nw) = (jn : Int) from ejn] at km
    obtain rfl : ks = pn.2 := asc_ints kasc pasc fun k => (km k).trans (pm k).symm
    obtain rfl : bz = b' := Bool.eq_iff_iff.mpr (kb.trans hsure.symm)
    have tr := tres jn pn hpn
    have S58' := S57.trans S58
    have D58' : Dv H58 v58 (resP pn.2 bz) := D58
    refine ⟨v58, resP pn.2 bz, rfl, tr.dp D58', .inr (tr.ref D58'), tr.sh, ?_⟩
    refine ⟨_, rfl, _, rfl, W, _, nw, V.ref pn.1, rfl, rfl, SqL.of (S58' _ _ (SA51.kp.get nW hduA)), ?_, _, rfl, by show 2 ≤ sizeLine; decide, fun q hq => ⟨.ref q, resP pn.2 bz, rfl, .tup (SqT.of upd_same) (.cons (.tup (SqT.of (nk (S58' _ _ (SA51.kp.get npn (duA jn pn hpn))) hq)) (dpAll_ints _)) (.cons (.bl _) .nil)), .inr ⟨_, rfl⟩, tr.sh, rfl, ?_⟩⟩
    · exact atI_int nw0 (by rw [ejn, Int.toNat_natCast, List.getElem?_map, hpn] <;> rfl)
    · show Q (.bl (decide (V.str _ = V.str _))) _
      rw [decide_eq_true rfl]
      exact k _
end
end Lk

set_option Elab.async false
set_option linter.all false
set_option maxRecDepth 100000
set_option maxHeartbeats 4000000
namespace Lk
open PySem L2
theorem mk_is_integer {K : PySem.W.Frag} {h : Heap} {mg : Str → Option Value} {f : Addr} {od an : Option Addr} {sl : Array (Option Value)} {oc kV dc pm cd ct : Value} (X : K.In h) (G : h.Ns mainGlobals mg) (a : PySem.W.nsIn K mainGlobals "is_integer" = some (some (.ref f))) (l : K.lookup f = some ⟨oc, od, .func (PySem.W.fnOf "is_integer" "is_integer" (defArgs s_is_integer) (defBody s_is_integer) (defScope s_is_integer) .none kV dc pm an cd ct), sl⟩) (c : PySem.W.codeIn K cd "is_integer" = true) (k : PySem.W.keepIn K (.ref f) = true) :
    Df K mg "is_integer" s_is_integer f (PySem.W.fnOf "is_integer" "is_integer" (defArgs s_is_integer) (defBody s_is_integer) (defScope s_is_integer) .none kV dc pm an cd ct) P_is_integer := ⟨fun_mk (st := s_is_integer) l c k, PySem.W.mg_of X G a, (fun_mk (st := s_is_integer) l c k).binds fun _ _ _ _ _ _ us hl => match us, hl with | [_], _ => rfl⟩
theorem mk_is_number {K : PySem.W.Frag} {h : Heap} {mg : Str → Option Value} {f : Addr} {od an : Option Addr} {sl : Array (Option Value)} {oc kV dc pm cd ct : Value} (X : K.In h) (G : h.Ns mainGlobals mg) (a : PySem.W.nsIn K mainGlobals "is_number" = some (some (.ref f))) (l : K.lookup f = some ⟨oc, od, .func (PySem.W.fnOf "is_number" "is_number" (defArgs s_is_number) (defBody s_is_number) (defScope s_is_number) .none kV dc pm an cd ct), sl⟩) (c : PySem.W.codeIn K cd "is_number" = true) (k : PySem.W.keepIn K (.ref f) = true) :
    Df K mg "is_number" s_is_number f (PySem.W.fnOf "is_number" "is_number" (defArgs s_is_number) (defBody s_is_number) (defScope s_is_number) .none kV dc pm an cd ct) P_is_number := ⟨fun_mk (st := s_is_number) l c k, PySem.W.mg_of X G a, (fun_mk (st := s_is_number) l c k).binds fun _ _ _ _ _ _ us hl => match us, hl with | [_], _ => rfl⟩
theorem mk_is_below {K : PySem.W.Frag} {h : Heap} {mg : Str → Option Value} {f : Addr} {od an : Option Addr} {sl : Array (Option Value)} {oc kV dc pm cd ct : Value} (X : K.In h) (G : h.Ns mainGlobals mg) (a : PySem.W.nsIn K mainGlobals "is_below" = some (some (.ref f))) (l : K.lookup f = some ⟨oc, od, .func (PySem.W.fnOf "is_below" "is_below" (defArgs s_is_below) (defBody s_is_below) (defScope s_is_below) .none kV dc pm an cd ct), sl⟩) (c : PySem.W.codeIn K cd "is_below" = true) (k : PySem.W.keepIn K (.ref f) = true) :
    Df K mg "is_below" s_is_below f (PySem.W.fnOf "is_below" "is_below" (defArgs s_is_below) (defBody s_is_below) (defScope s_is_below) .none kV dc pm an cd ct) P_is_below := ⟨fun_mk (st := s_is_below) l c k, PySem.W.mg_of X G a, (fun_mk (st := s_is_below) l c k).binds fun _ _ _ _ _ _ us hl => match us, hl with | [_, _], _ => rfl⟩
theorem mk_is_sequence {K : PySem.W.Frag} {h : Heap} {mg : Str → Option Value} {f : Addr} {od an : Option Addr} {sl : Array (Option Value)} {oc kV dc pm cd ct : Value} (X : K.In h) (G : h.Ns mainGlobals mg) (a : PySem.W.nsIn K mainGlobals "is_sequence" = some (some (.ref f))) (l : K.lookup f = some ⟨oc, od, .func (PySem.W.fnOf "is_sequence" "is_sequence" (defArgs s_is_sequence) (defBody s_is_sequence) (defScope s_is_sequence) .none kV dc pm an cd ct), sl⟩) (c : PySem.W.codeIn K cd "is_sequence" = true) (k : PySem.W.keepIn K (.ref f) = true) :
    Df K mg "is_sequence" s_is_sequence f (PySem.W.fnOf "is_sequence" "is_sequence" (defArgs s_is_sequence) (defBody s_is_sequence) (defScope s_is_sequence) .none kV dc pm an cd ct) P_is_sequence := ⟨fun_mk (st := s_is_sequence) l c k, PySem.W.mg_of X G a, (fun_mk (st := s_is_sequence) l c k).binds fun _ _ _ _ _ _ us hl => match us, hl with | [_], _ => rfl⟩
theorem mk_are_below {K : PySem.W.Frag} {h : Heap} {mg : Str → Option Value} {f : Addr} {od an : Option Addr} {sl : Array (Option Value)} {oc kV dc pm cd ct : Value} (X : K.In h) (G : h.Ns mainGlobals mg) (a : PySem.W.nsIn K mainGlobals "are_below" = some (some (.ref f))) (l : K.lookup f = some ⟨oc, od, .func (PySem.W.fnOf "are_below" "are_below" (defArgs s_are_below) (defBody s_are_below) (defScope s_are_below) .none kV dc pm an cd ct), sl⟩) (c : PySem.W.codeIn K cd "are_below" = true) (k : PySem.W.keepIn K (.ref f) = true) :
    Df K mg "are_below" s_are_below f (PySem.W.fnOf "are_below" "are_below" (defArgs s_are_below) (defBody s_are_below) (defScope s_are_below) .none kV dc pm an cd ct) P_are_below := ⟨fun_mk (st := s_are_below) l c k, PySem.W.mg_of X G a, (fun_mk (st := s_are_below) l c k).binds fun _ _ _ _ _ _ us hl => match us, hl with | [_, _], _ => rfl⟩
theorem mk_is_entry {K : PySem.W.Frag} {h : Heap} {mg : Str → Option Value} {f : Addr} {od an : Option Addr} {sl : Array (Option Value)} {oc kV dc pm cd ct : Value} (X : K.In h) (G : h.Ns mainGlobals mg) (a : PySem.W.nsIn K mainGlobals "_is_entry" = some (some (.ref f))) (l : K.lookup f = some ⟨oc, od, .func (PySem.W.fnOf "_is_entry" "_is_entry" (defArgs s_is_entry) (defBody s_is_entry) (defScope s_is_entry) .none kV dc pm an cd ct), sl⟩) (c : PySem.W.codeIn K cd "_is_entry" = true) (k : PySem.W.keepIn K (.ref f) = true) :
    Df K mg "_is_entry" s_is_entry f (PySem.W.fnOf "_is_entry" "_is_entry" (defArgs s_is_entry) (defBody s_is_entry) (defScope s_is_entry) .none kV dc pm an cd ct) P_is_entry := ⟨fun_mk (st := s_is_entry) l c k, PySem.W.mg_of X G a, (fun_mk (st := s_is_entry) l c k).binds fun _ _ _ _ _ _ us hl => match us, hl with | [_, _, _], _ => rfl⟩
theorem mk_is_state {K : PySem.W.Frag} {h : Heap} {mg : Str → Option Value} {f : Addr} {od an : Option Addr} {sl : Array (Option Value)} {oc kV dc pm cd ct : Value} (X : K.In h) (G : h.Ns mainGlobals mg) (a : PySem.W.nsIn K mainGlobals "is_state" = some (some (.ref f))) (l : K.lookup f = some ⟨oc, od, .func (PySem.W.fnOf "is_state" "is_state" (defArgs s_is_state) (defBody s_is_state) (defScope s_is_state) .none kV dc pm an cd ct), sl⟩) (c : PySem.W.codeIn K cd "is_state" = true) (k : PySem.W.keepIn K (.ref f) = true) :
    Df K mg "is_state" s_is_state f (PySem.W.fnOf "is_state" "is_state" (defArgs s_is_state) (defBody s_is_state) (defScope s_is_state) .none kV dc pm an cd ct) P_is_state := ⟨fun_mk (st := s_is_state) l c k, PySem.W.mg_of X G a, (fun_mk (st := s_is_state) l c k).binds fun _ _ _ _ _ _ us hl => match us, hl with | [_, _], _ => rfl⟩
theorem mk_is_command {K : PySem.W.Frag} {h : Heap} {mg : Str → Option Value} {f : Addr} {od an : Option Addr} {sl : Array (Option Value)} {oc kV dc pm cd ct : Value} (X : K.In h) (G : h.Ns mainGlobals mg) (a : PySem.W.nsIn K mainGlobals "is_command" = some (some (.ref f))) (l : K.lookup f = some ⟨oc, od, .func (PySem.W.fnOf "is_command" "is_command" (defArgs s_is_command) (defBody s_is_command) (defScope s_is_command) .none kV dc pm an cd ct), sl⟩) (c : PySem.W.codeIn K cd "is_command" = true) (k : PySem.W.keepIn K (.ref f) = true) :
    Df K mg "is_command" s_is_command f (PySem.W.fnOf "is_command" "is_command" (defArgs s_is_command) (defBody s_is_command) (defScope s_is_command) .none kV dc pm an cd ct) P_is_command := ⟨fun_mk (st := s_is_command) l c k, PySem.W.mg_of X G a, (fun_mk (st := s_is_command) l c k).binds fun _ _ _ _ _ _ us hl => match us, hl with | [_, _], _ => rfl⟩
theorem mk_checked_row {K : PySem.W.Frag} {h : Heap} {mg : Str → Option Value} {f : Addr} {od an : Option Addr} {sl : Array (Option Value)} {oc kV dc pm cd ct : Value} (X : K.In h) (G : h.Ns mainGlobals mg) (a : PySem.W.nsIn K mainGlobals "checked_row" = some (some (.ref f))) (l : K.lookup f = some ⟨oc, od, .func (PySem.W.fnOf "checked_row" "checked_row" (defArgs s_checked_row) (defBody s_checked_row) (defScope s_checked_row) .none kV dc pm an cd ct), sl⟩) (c : PySem.W.codeIn K cd "checked_row" = true) (k : PySem.W.keepIn K (.ref f) = true) :
    Df K mg "checked_row" s_checked_row f (PySem.W.fnOf "checked_row" "checked_row" (defArgs s_checked_row) (defBody s_checked_row) (defScope s_checked_row) .none kV dc pm an cd ct) P_checked_row := ⟨fun_mk (st := s_checked_row) l c k, PySem.W.mg_of X G a, (fun_mk (st := s_checked_row) l c k).binds fun _ _ _ _ _ _ us hl => match us, hl with | [_, _], _ => rfl⟩
theorem mk_resting {K : PySem.W.Frag} {h : Heap} {mg : Str → Option Value} {f : Addr} {od an : Option Addr} {sl : Array (Option Value)} {oc kV dc pm cd ct : Value} (X : K.In h) (G : h.Ns mainGlobals mg) (a : PySem.W.nsIn K mainGlobals "resting" = some (some (.ref f))) (l : K.lookup f = some ⟨oc, od, .func (PySem.W.fnOf "resting" "resting" (defArgs s_resting) (defBody s_resting) (defScope s_resting) .none kV dc pm an cd ct), sl⟩) (c : PySem.W.codeIn K cd "resting" = true) (k : PySem.W.keepIn K (.ref f) = true) :
    Df K mg "resting" s_resting f (PySem.W.fnOf "resting" "resting" (defArgs s_resting) (defBody s_resting) (defScope s_resting) .none kV dc pm an cd ct) P_resting := ⟨fun_mk (st := s_resting) l c k, PySem.W.mg_of X G a, (fun_mk (st := s_resting) l c k).binds fun _ _ _ _ _ _ us hl => match us, hl with | [_], _ => rfl⟩
theorem mk_effects {K : PySem.W.Frag} {h : Heap} {mg : Str → Option Value} {f : Addr} {od an : Option Addr} {sl : Array (Option Value)} {oc kV dc pm cd ct : Value} (X : K.In h) (G : h.Ns mainGlobals mg) (a : PySem.W.nsIn K mainGlobals "effects" = some (some (.ref f))) (l : K.lookup f = some ⟨oc, od, .func (PySem.W.fnOf "effects" "effects" (defArgs s_effects) (defBody s_effects) (defScope s_effects) .none kV dc pm an cd ct), sl⟩) (c : PySem.W.codeIn K cd "effects" = true) (k : PySem.W.keepIn K (.ref f) = true) :
    Df K mg "effects" s_effects f (PySem.W.fnOf "effects" "effects" (defArgs s_effects) (defBody s_effects) (defScope s_effects) .none kV dc pm an cd ct) P_effects := ⟨fun_mk (st := s_effects) l c k, PySem.W.mg_of X G a, (fun_mk (st := s_effects) l c k).binds fun _ _ _ _ _ _ us hl => match us, hl with | [_], _ => rfl⟩
theorem mk_followed {K : PySem.W.Frag} {h : Heap} {mg : Str → Option Value} {f : Addr} {od an : Option Addr} {sl : Array (Option Value)} {oc kV dc pm cd ct : Value} (X : K.In h) (G : h.Ns mainGlobals mg) (a : PySem.W.nsIn K mainGlobals "followed" = some (some (.ref f))) (l : K.lookup f = some ⟨oc, od, .func (PySem.W.fnOf "followed" "followed" (defArgs s_followed) (defBody s_followed) (defScope s_followed) .none kV dc pm an cd ct), sl⟩) (c : PySem.W.codeIn K cd "followed" = true) (k : PySem.W.keepIn K (.ref f) = true) :
    Df K mg "followed" s_followed f (PySem.W.fnOf "followed" "followed" (defArgs s_followed) (defBody s_followed) (defScope s_followed) .none kV dc pm an cd ct) P_followed := ⟨fun_mk (st := s_followed) l c k, PySem.W.mg_of X G a, (fun_mk (st := s_followed) l c k).binds fun _ _ _ _ _ _ us hl => match us, hl with | [_, _], _ => rfl⟩
theorem mk_effect {K : PySem.W.Frag} {h : Heap} {mg : Str → Option Value} {f : Addr} {od an : Option Addr} {sl : Array (Option Value)} {oc kV dc pm cd ct : Value} (X : K.In h) (G : h.Ns mainGlobals mg) (a : PySem.W.nsIn K mainGlobals "effect" = some (some (.ref f))) (l : K.lookup f = some ⟨oc, od, .func (PySem.W.fnOf "effect" "effect" (defArgs s_effect) (defBody s_effect) (defScope s_effect) .none kV dc pm an cd ct), sl⟩) (c : PySem.W.codeIn K cd "effect" = true) (k : PySem.W.keepIn K (.ref f) = true) :
    Df K mg "effect" s_effect f (PySem.W.fnOf "effect" "effect" (defArgs s_effect) (defBody s_effect) (defScope s_effect) .none kV dc pm an cd ct) P_effect := ⟨fun_mk (st := s_effect) l c k, PySem.W.mg_of X G a, (fun_mk (st := s_effect) l c k).binds fun _ _ _ _ _ _ us hl => match us, hl with | [_, _], _ => rfl⟩
theorem mk_pair_apart {K : PySem.W.Frag} {h : Heap} {mg : Str → Option Value} {f : Addr} {od an : Option Addr} {sl : Array (Option Value)} {oc kV dc pm cd ct : Value} (X : K.In h) (G : h.Ns mainGlobals mg) (a : PySem.W.nsIn K mainGlobals "pair_apart" = some (some (.ref f))) (l : K.lookup f = some ⟨oc, od, .func (PySem.W.fnOf "pair_apart" "pair_apart" (defArgs s_pair_apart) (defBody s_pair_apart) (defScope s_pair_apart) .none kV dc pm an cd ct), sl⟩) (c : PySem.W.codeIn K cd "pair_apart" = true) (k : PySem.W.keepIn K (.ref f) = true) :
    Df K mg "pair_apart" s_pair_apart f (PySem.W.fnOf "pair_apart" "pair_apart" (defArgs s_pair_apart) (defBody s_pair_apart) (defScope s_pair_apart) .none kV dc pm an cd ct) P_pair_apart := ⟨fun_mk (st := s_pair_apart) l c k, PySem.W.mg_of X G a, (fun_mk (st := s_pair_apart) l c k).binds fun _ _ _ _ _ _ us hl => match us, hl with | [_, _], _ => rfl⟩
theorem mk_both_ends {K : PySem.W.Frag} {h : Heap} {mg : Str → Option Value} {f : Addr} {od an : Option Addr} {sl : Array (Option Value)} {oc kV dc pm cd ct : Value} (X : K.In h) (G : h.Ns mainGlobals mg) (a : PySem.W.nsIn K mainGlobals "_both_ends" = some (some (.ref f))) (l : K.lookup f = some ⟨oc, od, .func (PySem.W.fnOf "_both_ends" "_both_ends" (defArgs s_both_ends) (defBody s_both_ends) (defScope s_both_ends) .none kV dc pm an cd ct), sl⟩) (c : PySem.W.codeIn K cd "_both_ends" = true) (k : PySem.W.keepIn K (.ref f) = true) :
    Df K mg "_both_ends" s_both_ends f (PySem.W.fnOf "_both_ends" "_both_ends" (defArgs s_both_ends) (defBody s_both_ends) (defScope s_both_ends) .none kV dc pm an cd ct) P_both_ends := ⟨fun_mk (st := s_both_ends) l c k, PySem.W.mg_of X G a, (fun_mk (st := s_both_ends) l c k).binds fun _ _ _ _ _ _ us hl => match us, hl with | [_, _, _, _], _ => rfl⟩
theorem mk_law_draw {K : PySem.W.Frag} {h : Heap} {mg : Str → Option Value} {f : Addr} {od an : Option Addr} {sl : Array (Option Value)} {oc kV dc pm cd ct : Value} (X : K.In h) (G : h.Ns mainGlobals mg) (a : PySem.W.nsIn K mainGlobals "_law_draw" = some (some (.ref f))) (l : K.lookup f = some ⟨oc, od, .func (PySem.W.fnOf "_law_draw" "_law_draw" (defArgs s_law_draw) (defBody s_law_draw) (defScope s_law_draw) .none kV dc pm an cd ct), sl⟩) (c : PySem.W.codeIn K cd "_law_draw" = true) (k : PySem.W.keepIn K (.ref f) = true) :
    Df K mg "_law_draw" s_law_draw f (PySem.W.fnOf "_law_draw" "_law_draw" (defArgs s_law_draw) (defBody s_law_draw) (defScope s_law_draw) .none kV dc pm an cd ct) P_law_draw := ⟨fun_mk (st := s_law_draw) l c k, PySem.W.mg_of X G a, (fun_mk (st := s_law_draw) l c k).binds fun _ _ _ _ _ _ us hl => match us, hl with | [_, _], _ => rfl⟩
theorem mk_law_any {K : PySem.W.Frag} {h : Heap} {mg : Str → Option Value} {f : Addr} {od an : Option Addr} {sl : Array (Option Value)} {oc kV dc pm cd ct : Value} (X : K.In h) (G : h.Ns mainGlobals mg) (a : PySem.W.nsIn K mainGlobals "_law_any" = some (some (.ref f))) (l : K.lookup f = some ⟨oc, od, .func (PySem.W.fnOf "_law_any" "_law_any" (defArgs s_law_any) (defBody s_law_any) (defScope s_law_any) .none kV dc pm an cd ct), sl⟩) (c : PySem.W.codeIn K cd "_law_any" = true) (k : PySem.W.keepIn K (.ref f) = true) :
    Df K mg "_law_any" s_law_any f (PySem.W.fnOf "_law_any" "_law_any" (defArgs s_law_any) (defBody s_law_any) (defScope s_law_any) .none kV dc pm an cd ct) P_law_any := ⟨fun_mk (st := s_law_any) l c k, PySem.W.mg_of X G a, (fun_mk (st := s_law_any) l c k).binds fun _ _ _ _ _ _ us hl => match us, hl with | [_, _], _ => rfl⟩
theorem mk_law_of {K : PySem.W.Frag} {h : Heap} {mg : Str → Option Value} {f : Addr} {od an : Option Addr} {sl : Array (Option Value)} {oc kV dc pm cd ct : Value} (X : K.In h) (G : h.Ns mainGlobals mg) (a : PySem.W.nsIn K mainGlobals "_law_of" = some (some (.ref f))) (l : K.lookup f = some ⟨oc, od, .func (PySem.W.fnOf "_law_of" "_law_of" (defArgs s_law_of) (defBody s_law_of) (defScope s_law_of) .none kV dc pm an cd ct), sl⟩) (c : PySem.W.codeIn K cd "_law_of" = true) (k : PySem.W.keepIn K (.ref f) = true) :
    Df K mg "_law_of" s_law_of f (PySem.W.fnOf "_law_of" "_law_of" (defArgs s_law_of) (defBody s_law_of) (defScope s_law_of) .none kV dc pm an cd ct) P_law_of := ⟨fun_mk (st := s_law_of) l c k, PySem.W.mg_of X G a, (fun_mk (st := s_law_of) l c k).binds fun _ _ _ _ _ _ us hl => match us, hl with | [_, _], _ => rfl⟩
theorem mk_law_mixed {K : PySem.W.Frag} {h : Heap} {mg : Str → Option Value} {f : Addr} {od an : Option Addr} {sl : Array (Option Value)} {oc kV dc pm cd ct : Value} (X : K.In h) (G : h.Ns mainGlobals mg) (a : PySem.W.nsIn K mainGlobals "_law_mixed" = some (some (.ref f))) (l : K.lookup f = some ⟨oc, od, .func (PySem.W.fnOf "_law_mixed" "_law_mixed" (defArgs s_law_mixed) (defBody s_law_mixed) (defScope s_law_mixed) .none kV dc pm an cd ct), sl⟩) (c : PySem.W.codeIn K cd "_law_mixed" = true) (k : PySem.W.keepIn K (.ref f) = true) :
    Df K mg "_law_mixed" s_law_mixed f (PySem.W.fnOf "_law_mixed" "_law_mixed" (defArgs s_law_mixed) (defBody s_law_mixed) (defScope s_law_mixed) .none kV dc pm an cd ct) P_law_mixed := ⟨fun_mk (st := s_law_mixed) l c k, PySem.W.mg_of X G a, (fun_mk (st := s_law_mixed) l c k).binds fun _ _ _ _ _ _ us hl => match us, hl with | [_, _], _ => rfl⟩
theorem mk_law_columns {K : PySem.W.Frag} {h : Heap} {mg : Str → Option Value} {f : Addr} {od an : Option Addr} {sl : Array (Option Value)} {oc kV dc pm cd ct : Value} (X : K.In h) (G : h.Ns mainGlobals mg) (a : PySem.W.nsIn K mainGlobals "_law_columns" = some (some (.ref f))) (l : K.lookup f = some ⟨oc, od, .func (PySem.W.fnOf "_law_columns" "_law_columns" (defArgs s_law_columns) (defBody s_law_columns) (defScope s_law_columns) .none kV dc pm an cd ct), sl⟩) (c : PySem.W.codeIn K cd "_law_columns" = true) (k : PySem.W.keepIn K (.ref f) = true) :
    Df K mg "_law_columns" s_law_columns f (PySem.W.fnOf "_law_columns" "_law_columns" (defArgs s_law_columns) (defBody s_law_columns) (defScope s_law_columns) .none kV dc pm an cd ct) P_law_columns := ⟨fun_mk (st := s_law_columns) l c k, PySem.W.mg_of X G a, (fun_mk (st := s_law_columns) l c k).binds fun _ _ _ _ _ _ us hl => match us, hl with | [_], _ => rfl⟩
theorem mk_law_column {K : PySem.W.Frag} {h : Heap} {mg : Str → Option Value} {f : Addr} {od an : Option Addr} {sl : Array (Option Value)} {oc kV dc pm cd ct : Value} (X : K.In h) (G : h.Ns mainGlobals mg) (a : PySem.W.nsIn K mainGlobals "_law_column" = some (some (.ref f))) (l : K.lookup f = some ⟨oc, od, .func (PySem.W.fnOf "_law_column" "_law_column" (defArgs s_law_column) (defBody s_law_column) (defScope s_law_column) .none kV dc pm an cd ct), sl⟩) (c : PySem.W.codeIn K cd "_law_column" = true) (k : PySem.W.keepIn K (.ref f) = true) :
    Df K mg "_law_column" s_law_column f (PySem.W.fnOf "_law_column" "_law_column" (defArgs s_law_column) (defBody s_law_column) (defScope s_law_column) .none kV dc pm an cd ct) P_law_column := ⟨fun_mk (st := s_law_column) l c k, PySem.W.mg_of X G a, (fun_mk (st := s_law_column) l c k).binds fun _ _ _ _ _ _ us hl => match us, hl with | [_, _, _], _ => rfl⟩
theorem mk_law_machine {K : PySem.W.Frag} {h : Heap} {mg : Str → Option Value} {f : Addr} {od an : Option Addr} {sl : Array (Option Value)} {oc kV dc pm cd ct : Value} (X : K.In h) (G : h.Ns mainGlobals mg) (a : PySem.W.nsIn K mainGlobals "_law_machine" = some (some (.ref f))) (l : K.lookup f = some ⟨oc, od, .func (PySem.W.fnOf "_law_machine" "_law_machine" (defArgs s_law_machine) (defBody s_law_machine) (defScope s_law_machine) .none kV dc pm an cd ct), sl⟩) (c : PySem.W.codeIn K cd "_law_machine" = true) (k : PySem.W.keepIn K (.ref f) = true) :
    Df K mg "_law_machine" s_law_machine f (PySem.W.fnOf "_law_machine" "_law_machine" (defArgs s_law_machine) (defBody s_law_machine) (defScope s_law_machine) .none kV dc pm an cd ct) P_law_machine := ⟨fun_mk (st := s_law_machine) l c k, PySem.W.mg_of X G a, (fun_mk (st := s_law_machine) l c k).binds fun _ _ _ _ _ _ us hl => match us, hl with | [_, _], _ => rfl⟩
theorem mk_law_row {K : PySem.W.Frag} {h : Heap} {mg : Str → Option Value} {f : Addr} {od an : Option Addr} {sl : Array (Option Value)} {oc kV dc pm cd ct : Value} (X : K.In h) (G : h.Ns mainGlobals mg) (a : PySem.W.nsIn K mainGlobals "_law_row" = some (some (.ref f))) (l : K.lookup f = some ⟨oc, od, .func (PySem.W.fnOf "_law_row" "_law_row" (defArgs s_law_row) (defBody s_law_row) (defScope s_law_row) .none kV dc pm an cd ct), sl⟩) (c : PySem.W.codeIn K cd "_law_row" = true) (k : PySem.W.keepIn K (.ref f) = true) :
    Df K mg "_law_row" s_law_row f (PySem.W.fnOf "_law_row" "_law_row" (defArgs s_law_row) (defBody s_law_row) (defScope s_law_row) .none kV dc pm an cd ct) P_law_row := ⟨fun_mk (st := s_law_row) l c k, PySem.W.mg_of X G a, (fun_mk (st := s_law_row) l c k).binds fun _ _ _ _ _ _ us hl => match us, hl with | [_, _, _], _ => rfl⟩
theorem mk_law_led {K : PySem.W.Frag} {h : Heap} {mg : Str → Option Value} {f : Addr} {od an : Option Addr} {sl : Array (Option Value)} {oc kV dc pm cd ct : Value} (X : K.In h) (G : h.Ns mainGlobals mg) (a : PySem.W.nsIn K mainGlobals "_law_led" = some (some (.ref f))) (l : K.lookup f = some ⟨oc, od, .func (PySem.W.fnOf "_law_led" "_law_led" (defArgs s_law_led) (defBody s_law_led) (defScope s_law_led) .none kV dc pm an cd ct), sl⟩) (c : PySem.W.codeIn K cd "_law_led" = true) (k : PySem.W.keepIn K (.ref f) = true) :
    Df K mg "_law_led" s_law_led f (PySem.W.fnOf "_law_led" "_law_led" (defArgs s_law_led) (defBody s_law_led) (defScope s_law_led) .none kV dc pm an cd ct) P_law_led := ⟨fun_mk (st := s_law_led) l c k, PySem.W.mg_of X G a, (fun_mk (st := s_law_led) l c k).binds fun _ _ _ _ _ _ us hl => match us, hl with | [_, _, _], _ => rfl⟩
theorem mk_law_columns_of {K : PySem.W.Frag} {h : Heap} {mg : Str → Option Value} {f : Addr} {od an : Option Addr} {sl : Array (Option Value)} {oc kV dc pm cd ct : Value} (X : K.In h) (G : h.Ns mainGlobals mg) (a : PySem.W.nsIn K mainGlobals "_law_columns_of" = some (some (.ref f))) (l : K.lookup f = some ⟨oc, od, .func (PySem.W.fnOf "_law_columns_of" "_law_columns_of" (defArgs s_law_columns_of) (defBody s_law_columns_of) (defScope s_law_columns_of) .none kV dc pm an cd ct), sl⟩) (c : PySem.W.codeIn K cd "_law_columns_of" = true) (k : PySem.W.keepIn K (.ref f) = true) :
    Df K mg "_law_columns_of" s_law_columns_of f (PySem.W.fnOf "_law_columns_of" "_law_columns_of" (defArgs s_law_columns_of) (defBody s_law_columns_of) (defScope s_law_columns_of) .none kV dc pm an cd ct) P_law_columns_of := ⟨fun_mk (st := s_law_columns_of) l c k, PySem.W.mg_of X G a, (fun_mk (st := s_law_columns_of) l c k).binds fun _ _ _ _ _ _ us hl => match us, hl with | [_, _, _], _ => rfl⟩
theorem mk_law_graded {K : PySem.W.Frag} {h : Heap} {mg : Str → Option Value} {f : Addr} {od an : Option Addr} {sl : Array (Option Value)} {oc kV dc pm cd ct : Value} (X : K.In h) (G : h.Ns mainGlobals mg) (a : PySem.W.nsIn K mainGlobals "_law_graded" = some (some (.ref f))) (l : K.lookup f = some ⟨oc, od, .func (PySem.W.fnOf "_law_graded" "_law_graded" (defArgs s_law_graded) (defBody s_law_graded) (defScope s_law_graded) .none kV dc pm an cd ct), sl⟩) (c : PySem.W.codeIn K cd "_law_graded" = true) (k : PySem.W.keepIn K (.ref f) = true) :
    Df K mg "_law_graded" s_law_graded f (PySem.W.fnOf "_law_graded" "_law_graded" (defArgs s_law_graded) (defBody s_law_graded) (defScope s_law_graded) .none kV dc pm an cd ct) P_law_graded := ⟨fun_mk (st := s_law_graded) l c k, PySem.W.mg_of X G a, (fun_mk (st := s_law_graded) l c k).binds fun _ _ _ _ _ _ us hl => match us, hl with | [_], _ => rfl⟩
theorem mk_law_corrected {K : PySem.W.Frag} {h : Heap} {mg : Str → Option Value} {f : Addr} {od an : Option Addr} {sl : Array (Option Value)} {oc kV dc pm cd ct : Value} (X : K.In h) (G : h.Ns mainGlobals mg) (a : PySem.W.nsIn K mainGlobals "_law_corrected" = some (some (.ref f))) (l : K.lookup f = some ⟨oc, od, .func (PySem.W.fnOf "_law_corrected" "_law_corrected" (defArgs s_law_corrected) (defBody s_law_corrected) (defScope s_law_corrected) .none kV dc pm an cd ct), sl⟩) (c : PySem.W.codeIn K cd "_law_corrected" = true) (k : PySem.W.keepIn K (.ref f) = true) :
    Df K mg "_law_corrected" s_law_corrected f (PySem.W.fnOf "_law_corrected" "_law_corrected" (defArgs s_law_corrected) (defBody s_law_corrected) (defScope s_law_corrected) .none kV dc pm an cd ct) P_law_corrected := ⟨fun_mk (st := s_law_corrected) l c k, PySem.W.mg_of X G a, (fun_mk (st := s_law_corrected) l c k).binds fun _ _ _ _ _ _ us hl => match us, hl with | [_, _, _], _ => rfl⟩
theorem mk_law_due {K : PySem.W.Frag} {h : Heap} {mg : Str → Option Value} {f : Addr} {od an : Option Addr} {sl : Array (Option Value)} {oc kV dc pm cd ct : Value} (X : K.In h) (G : h.Ns mainGlobals mg) (a : PySem.W.nsIn K mainGlobals "_law_due" = some (some (.ref f))) (l : K.lookup f = some ⟨oc, od, .func (PySem.W.fnOf "_law_due" "_law_due" (defArgs s_law_due) (defBody s_law_due) (defScope s_law_due) .none kV dc pm an cd ct), sl⟩) (c : PySem.W.codeIn K cd "_law_due" = true) (k : PySem.W.keepIn K (.ref f) = true) :
    Df K mg "_law_due" s_law_due f (PySem.W.fnOf "_law_due" "_law_due" (defArgs s_law_due) (defBody s_law_due) (defScope s_law_due) .none kV dc pm an cd ct) P_law_due := ⟨fun_mk (st := s_law_due) l c k, PySem.W.mg_of X G a, (fun_mk (st := s_law_due) l c k).binds fun _ _ _ _ _ _ us hl => match us, hl with | [_, _, _, _, _], _ => rfl⟩
theorem mk_law_asked {K : PySem.W.Frag} {h : Heap} {mg : Str → Option Value} {f : Addr} {od an : Option Addr} {sl : Array (Option Value)} {oc kV dc pm cd ct : Value} (X : K.In h) (G : h.Ns mainGlobals mg) (a : PySem.W.nsIn K mainGlobals "_law_asked" = some (some (.ref f))) (l : K.lookup f = some ⟨oc, od, .func (PySem.W.fnOf "_law_asked" "_law_asked" (defArgs s_law_asked) (defBody s_law_asked) (defScope s_law_asked) .none kV dc pm an cd ct), sl⟩) (c : PySem.W.codeIn K cd "_law_asked" = true) (k : PySem.W.keepIn K (.ref f) = true) :
    Df K mg "_law_asked" s_law_asked f (PySem.W.fnOf "_law_asked" "_law_asked" (defArgs s_law_asked) (defBody s_law_asked) (defScope s_law_asked) .none kV dc pm an cd ct) P_law_asked := ⟨fun_mk (st := s_law_asked) l c k, PySem.W.mg_of X G a, (fun_mk (st := s_law_asked) l c k).binds fun _ _ _ _ _ _ us hl => match us, hl with | [_, _, _, _, _], _ => rfl⟩
theorem mk_law_wrong {K : PySem.W.Frag} {h : Heap} {mg : Str → Option Value} {f : Addr} {od an : Option Addr} {sl : Array (Option Value)} {oc kV dc pm cd ct : Value} (X : K.In h) (G : h.Ns mainGlobals mg) (a : PySem.W.nsIn K mainGlobals "_law_wrong" = some (some (.ref f))) (l : K.lookup f = some ⟨oc, od, .func (PySem.W.fnOf "_law_wrong" "_law_wrong" (defArgs s_law_wrong) (defBody s_law_wrong) (defScope s_law_wrong) .none kV dc pm an cd ct), sl⟩) (c : PySem.W.codeIn K cd "_law_wrong" = true) (k : PySem.W.keepIn K (.ref f) = true) :
    Df K mg "_law_wrong" s_law_wrong f (PySem.W.fnOf "_law_wrong" "_law_wrong" (defArgs s_law_wrong) (defBody s_law_wrong) (defScope s_law_wrong) .none kV dc pm an cd ct) P_law_wrong := ⟨fun_mk (st := s_law_wrong) l c k, PySem.W.mg_of X G a, (fun_mk (st := s_law_wrong) l c k).binds fun _ _ _ _ _ _ us hl => match us, hl with | [_, _, _], _ => rfl⟩
theorem mk_mended_states {K : PySem.W.Frag} {h : Heap} {mg : Str → Option Value} {f p D : Addr} {od an : Option Addr} {sl : Array (Option Value)} {oc dc pm cd ct : Value} (X : K.In h) (G : h.Ns mainGlobals mg) (a : PySem.W.nsIn K mainGlobals "mended_states" = some (some (.ref f))) (l : K.lookup f = some ⟨oc, od, .func (PySem.W.fnOf "mended_states" "mended_states" (defArgs s_mended_states) (defBody s_mended_states) (defScope s_mended_states) .none (.ref D) dc pm an cd ct), sl⟩) (c : PySem.W.codeIn K cd "mended_states" = true) (k : PySem.W.keepIn K (.ref f) = true) (n : PySem.W.nsIn K D "since" = some (some (.ref p))) :
    DfD K mg "mended_states" s_mended_states [("since", V.ref p)] f (PySem.W.fnOf "mended_states" "mended_states" (defArgs s_mended_states) (defBody s_mended_states) (defScope s_mended_states) .none (.ref D) dc pm an cd ct) := ⟨⟨⟨oc, od, .none, .ref D, dc, pm, an, cd, ct, sl, rfl, l, c, .inl ⟨rfl, rfl⟩, .inr ⟨D, rfl, fun q hq => ⟨.ref p, by rw [List.mem_singleton.mp hq]; exact ⟨n, rfl⟩⟩⟩⟩, k⟩, PySem.W.mg_of X G a⟩
theorem mk_can_be_mended {K : PySem.W.Frag} {h : Heap} {mg : Str → Option Value} {f p D : Addr} {od an : Option Addr} {sl : Array (Option Value)} {oc dc pm cd ct : Value} (X : K.In h) (G : h.Ns mainGlobals mg) (a : PySem.W.nsIn K mainGlobals "can_be_mended" = some (some (.ref f))) (l : K.lookup f = some ⟨oc, od, .func (PySem.W.fnOf "can_be_mended" "can_be_mended" (defArgs s_can_be_mended) (defBody s_can_be_mended) (defScope s_can_be_mended) .none (.ref D) dc pm an cd ct), sl⟩) (c : PySem.W.codeIn K cd "can_be_mended" = true) (k : PySem.W.keepIn K (.ref f) = true) (n : PySem.W.nsIn K D "since" = some (some (.ref p))) :
    DfD K mg "can_be_mended" s_can_be_mended [("since", V.ref p)] f (PySem.W.fnOf "can_be_mended" "can_be_mended" (defArgs s_can_be_mended) (defBody s_can_be_mended) (defScope s_can_be_mended) .none (.ref D) dc pm an cd ct) := ⟨⟨⟨oc, od, .none, .ref D, dc, pm, an, cd, ct, sl, rfl, l, c, .inl ⟨rfl, rfl⟩, .inr ⟨D, rfl, fun q hq => ⟨.ref p, by rw [List.mem_singleton.mp hq]; exact ⟨n, rfl⟩⟩⟩⟩, k⟩, PySem.W.mg_of X G a⟩
theorem wt_mk {K : PySem.W.Frag} {p : Addr} {od : Option Addr} {n : Nat} {sl : Array (Option Value)} (l : K.lookup p = some ⟨.type "tuple", od, .seq #[] n, sl⟩) : WTup K p := ⟨_, n, l, rfl, rfl⟩
theorem g5_rel {zs : List V} {ws : List Value} (h : Vals zs ws) : Vals (g5 zs) (g5 ws) := by
  match zs, ws, h with
  | [], _, .nil => exact .nil
  | [_], _, .cons _ .nil => exact .nil
  | [_, _], _, .cons _ (.cons _ .nil) => exact .nil
  | [_, _, _], _, .cons _ (.cons _ (.cons _ .nil)) => exact .nil
  | [_, _, _, _], _, .cons _ (.cons _ (.cons _ (.cons _ .nil))) => exact .nil
  | [_, _, _, _, _], _, .cons a (.cons b (.cons c (.cons d (.cons e .nil)))) => exact .cons d (.cons c (.cons b (.cons a (.cons e .nil))))
  | _ :: _ :: _ :: _ :: _ :: _ :: _, _, .cons _ (.cons _ (.cons _ (.cons _ (.cons _ (.cons _ _))))) => exact .nil
theorem g3_rel {ls zs : List V} {us ws : List Value} (h0 : Vals ls us) (h : Vals zs ws) : Vals (g3 ls zs) (g3 us ws) := by
  match zs, ws, h with
  | [], _, .nil => exact .nil
  | [_], _, .cons _ .nil => exact .nil
  | [_, _], _, .cons _ (.cons _ .nil) => exact .nil
  | [_, _, _], _, .cons a (.cons b (.cons c .nil)) => exact .cons c (.cons b (.cons a h0))
  | _ :: _ :: _ :: _ :: _, _, .cons _ (.cons _ (.cons _ (.cons _ _))) => exact .nil
/-- an error of a class is taken by a clause that names the class, or not -/
theorem exm_of {K : PySem.W.Frag} {S R : Addr} {b : Bool} (h1 : PySem.W.subIn K (.ref R) (.type "BaseException") = some true) (h2 : PySem.W.isClsIn K R = true) (h3 : PySem.W.typeIn K (.ref R) = some (.type "type")) (h4 : PySem.W.subIn K (.ref S) (.ref R) = some b) : PySem.W.exmOne K (.ref S) (.ref R) = some b := by
  have e1 : (PySem.W.subIn K (.ref R) (.type "BaseException") == some true) = true := by rw [h1] <;> rfl
  have e2 : ((PySem.W.clsIn K R).isSome && PySem.W.typeIn K (.ref R) == some (.type "type")) = true := by
    have q : (PySem.W.clsIn K R).isSome = true := h2
    rw [q, h3] <;> rfl
  show (if (PySem.W.subIn K (.ref R) (.type "BaseException") == some true) = true then (if ((PySem.W.clsIn K R).isSome && PySem.W.typeIn K (.ref R) == some (.type "type")) = true then PySem.W.subIn K (.ref S) (.ref R) else none) else none) = some b
  rw [if_pos e1, if_pos e2]
  exact h4
/-- what is told of an error's class and of its __init__ -/
structure ErrF (K : PySem.W.Frag) (C fI : Addr) : Prop where
  sa : PySem.W.findIn K (.ref C) "__setattr__" = some (some (.builtin "object.__setattr__"))
  ga : PySem.W.findIn K (.ref C) "__getattribute__" = some (some (.builtin "BaseException.__getattribute__"))
  gg : PySem.W.findIn K (.ref C) "__getattr__" = some none
  nb : PySem.W.findIn K (.ref C) "at" = some none
  a : PySem.W.findIn K (.ref C) "__init__" = some (some (.ref fI))
  t : PySem.W.typeIn K (.ref fI) = some (.type "function")
  k : PySem.W.keepIn K (.ref C) = true
  e : PySem.W.subIn K (.ref C) (.type "BaseException") = some true
  tC : PySem.W.typeIn K (.ref C) = some (.type "type")
  h : PySem.W.hasDictIn K C = true
  i : PySem.W.isClsIn K C = true
  s : PySem.W.subIn K (.ref C) (.ref C) = some true
theorem err_mk {K : PySem.W.Frag} {h : Heap} {mg : Str → Option Value} {cn qn : Str} {C fI : Addr} {st : Stmt} {od an : Option Addr} {sl : Array (Option Value)} {oc dc pm cd ct : Value} {p1 p2 q1 q2 q3 q4 : Pos} {nm q : Str} {S N : Addr} {bs : List Value} {sn : List Str} {sub : List Value} {ab : Bool} {col : Option Bool} {dd : Option Addr} {m0 m1 m2 m3 m5 : Option Value} (X : K.In h) (G : h.Ns mainGlobals mg) (aC : PySem.W.nsIn K mainGlobals cn = some (some (.ref C))) (xL : K.lookup C = some (excClassObj nm q C N bs [.ref S, .type "ValueError", .type "Exception", .type "BaseException", .type "object"] true sn sub ab col dd m0 m1 m2 m3 m5 "ValueError.__new__")) (F : ErrF K C fI)
    (l : K.lookup fI = some ⟨oc, od, .func (PySem.W.fnOf "__init__" qn (defArgs st) (defBody st) (defScope st) .none .none dc pm an cd ct), sl⟩) (c : PySem.W.codeIn K cd qn = true) (e1 : defArgs st = PySem.ErrX.iA p1 p2) (e2 : defBody st = PySem.ErrX.iB q1 q2 q3 q4) (e3 : defScope st = PySem.ErrX.iS) : PySem.ErrX.ErrTxt K mg cn qn C fI := by
  rw [e1, e2, e3] at l
  exact { gC := PySem.W.mg_of X G aC, cls := ⟨nm, q, N, bs, _, sn, sub, ab, col, dd, m0, m1, m2, m3, m5, xL, by show PySem.HandSPX.refsVE [.type "ValueError", .type "Exception", .type "BaseException", .type "object"] = true; decide +kernel⟩, sa := F.sa, ga := F.ga, gg := F.gg, noN := F.nb, iC := F.a, tC := F.t, kC := F.k, exC := F.e, tyC := F.tC, hdC := F.h, te := exm_of F.e F.i F.tC F.s, fn := ⟨oc, od, dc, pm, an, cd, ct, sl, _, _, _, _, _, _, l, c⟩ }
end Lk

set_option Elab.async false
set_option linter.all false
set_option maxRecDepth 100000
set_option maxHeartbeats 8000000
namespace Lk
open PySem L2
/-- what is told of the class Machine -/
structure MacF (K : PySem.W.Frag) (CM fI : Addr) : Prop where
  pg : PySem.W.plainGet K CM Str.empty = true
  hd : PySem.W.hasDictIn K CM = true
  po : PySem.W.plainOver K CM = true
  sa : PySem.W.findIn K (.ref CM) "__setattr__" = some (some (.builtin "object.__setattr__"))
  n1 : PySem.W.findIn K (.ref CM) "commands" = some none
  n2 : PySem.W.findIn K (.ref CM) "states" = some none
  n3 : PySem.W.findIn K (.ref CM) "steps" = some none
  mkI : PySem.W.makesIn K CM = true
  ini : PySem.W.findIn K (.ref CM) "__init__" = some (some (.ref fI))
  fnI : PySem.W.isFn K (.ref fI) = true
  kp : PySem.W.keepIn K (.ref CM) = true
theorem all_mk {l : PySem.W.OpenLaw} {w : World} {K : PySem.W.Frag} {h : Heap} {mg : Str → Option Value} {fa f42 CM fI CE fCE CW fCW CR fCR : Addr} {f_is_integer f_is_number f_is_below f_is_sequence f_are_below f_is_entry f_is_state f_is_command f_checked_row f_resting f_effects f_followed f_effect f_pair_apart f_both_ends f_law_draw f_law_any f_law_of f_law_mixed f_law_columns f_law_column f_law_machine f_law_row f_law_led f_law_columns_of f_law_graded f_law_corrected f_law_due f_law_asked f_law_wrong f_mended_states f_can_be_mended p_mended_states p_can_be_mended : Addr} {g_is_integer g_is_number g_is_below g_is_sequence g_are_below g_is_entry g_is_state g_is_command g_checked_row g_resting g_effects g_followed g_effect g_pair_apart g_both_ends g_law_draw g_law_any g_law_of g_law_mixed g_law_columns g_law_column g_law_machine g_law_row g_law_led g_law_columns_of g_law_graded g_law_corrected g_law_due g_law_asked g_law_wrong g_mended_states g_can_be_mended : FuncData}
    {od1 an1 od2 an2 : Option Addr} {sl1 sl2 : Array (Option Value)} {oc1 kV1 dc1 pm1 cd1 ct1 oc2 kV2 dc2 pm2 cd2 ct2 : Value} (X : K.In h) (G : h.Ns mainGlobals mg) (hfa : mg "law" = some (.ref fa))
    (d_is_integer : Df K mg "is_integer" s_is_integer f_is_integer g_is_integer P_is_integer)
    (d_is_number : Df K mg "is_number" s_is_number f_is_number g_is_number P_is_number)
    (d_is_below : Df K mg "is_below" s_is_below f_is_below g_is_below P_is_below)
    (d_is_sequence : Df K mg "is_sequence" s_is_sequence f_is_sequence g_is_sequence P_is_sequence)
    (d_are_below : Df K mg "are_below" s_are_below f_are_below g_are_below P_are_below)
    (d_is_entry : Df K mg "_is_entry" s_is_entry f_is_entry g_is_entry P_is_entry)
    (d_is_state : Df K mg "is_state" s_is_state f_is_state g_is_state P_is_state)
    (d_is_command : Df K mg "is_command" s_is_command f_is_command g_is_command P_is_command)
    (d_checked_row : Df K mg "checked_row" s_checked_row f_checked_row g_checked_row P_checked_row)
    (d_resting : Df K mg "resting" s_resting f_resting g_resting P_resting)
    (d_effects : Df K mg "effects" s_effects f_effects g_effects P_effects)
    (d_followed : Df K mg "followed" s_followed f_followed g_followed P_followed)
    (d_effect : Df K mg "effect" s_effect f_effect g_effect P_effect)
    (d_pair_apart : Df K mg "pair_apart" s_pair_apart f_pair_apart g_pair_apart P_pair_apart)
    (d_both_ends : Df K mg "_both_ends" s_both_ends f_both_ends g_both_ends P_both_ends)
    (d_law_draw : Df K mg "_law_draw" s_law_draw f_law_draw g_law_draw P_law_draw)
    (d_law_any : Df K mg "_law_any" s_law_any f_law_any g_law_any P_law_any)
    (d_law_of : Df K mg "_law_of" s_law_of f_law_of g_law_of P_law_of)
    (d_law_mixed : Df K mg "_law_mixed" s_law_mixed f_law_mixed g_law_mixed P_law_mixed)
    (d_law_columns : Df K mg "_law_columns" s_law_columns f_law_columns g_law_columns P_law_columns)
    (d_law_column : Df K mg "_law_column" s_law_column f_law_column g_law_column P_law_column)
    (d_law_machine : Df K mg "_law_machine" s_law_machine f_law_machine g_law_machine P_law_machine)
    (d_law_row : Df K mg "_law_row" s_law_row f_law_row g_law_row P_law_row)
    (d_law_led : Df K mg "_law_led" s_law_led f_law_led g_law_led P_law_led)
    (d_law_columns_of : Df K mg "_law_columns_of" s_law_columns_of f_law_columns_of g_law_columns_of P_law_columns_of)
    (d_law_graded : Df K mg "_law_graded" s_law_graded f_law_graded g_law_graded P_law_graded)
    (d_law_corrected : Df K mg "_law_corrected" s_law_corrected f_law_corrected g_law_corrected P_law_corrected)
    (d_law_due : Df K mg "_law_due" s_law_due f_law_due g_law_due P_law_due)
    (d_law_asked : Df K mg "_law_asked" s_law_asked f_law_asked g_law_asked P_law_asked)
    (d_law_wrong : Df K mg "_law_wrong" s_law_wrong f_law_wrong g_law_wrong P_law_wrong)
    (d_mended_states : DfD K mg "mended_states" s_mended_states [("since", V.ref p_mended_states)] f_mended_states g_mended_states) (w_mended_states : WTup K p_mended_states)
    (d_can_be_mended : DfD K mg "can_be_mended" s_can_be_mended [("since", V.ref p_can_be_mended)] f_can_be_mended g_can_be_mended) (w_can_be_mended : WTup K p_can_be_mended)
    (a1 : PySem.W.nsIn K mainGlobals "law" = some (some (.ref f42))) (l1 : K.lookup f42 = some ⟨oc1, od1, .func (PySem.W.fnOf "law" "law" (defArgs s_law) (defBody s_law) (defScope s_law) .none kV1 dc1 pm1 an1 cd1 ct1), sl1⟩) (c1 : PySem.W.codeIn K cd1 "law" = true) (k1 : PySem.W.keepIn K (.ref f42) = true)
    (aM : PySem.W.nsIn K mainGlobals "Machine" = some (some (.ref CM))) (MF : MacF K CM fI)
    (l2 : K.lookup fI = some ⟨oc2, od2, .func (PySem.W.fnOf "__init__" "Machine.__init__" (defArgs s_Machine___init) (defBody s_Machine___init) (defScope s_Machine___init) .none kV2 dc2 pm2 an2 cd2 ct2), sl2⟩) (c2 : PySem.W.codeIn K cd2 "Machine.__init__" = true) (k2 : PySem.W.keepIn K (.ref fI) = true)
    (EM : PySem.ErrX.ErrTxt K mg "InvalidMachine" "InvalidMachine.__init__" CE fCE) (EW : PySem.ErrX.ErrTxt K mg "InvalidRow" "InvalidRow.__init__" CW fCW) (ER : PySem.ErrX.ErrTxt K mg "Refused" "Refused.__init__" CR fCR) (ne : PySem.W.exmOne K (.ref CR) (.ref CW) = some false)
    (zsorted : mg "sorted" = none) (T : Txt mg) :
    ∃ fd : FuncData, (∀ (s : Shared) (v : Value), BindsTo s fd ⟨[v], []⟩ [("script", v)]) ∧ ∀ base : Heap, K.In base → base.Ns mainGlobals mg → FnG l.prog w K mg base 11 fa fd ["script"] (spLaw K) := by
  have e := hfa.symm.trans (PySem.W.mg_of X G a1)
  cases e
  have TC : TxC K CM := ⟨⟨MF.pg, MF.hd, MF.po, MF.sa⟩, MF.n1, MF.n2, MF.n3⟩
  have gM := PySem.W.mg_of X G aM
  have FI := fun_mk (st := s_Machine___init) l2 c2 k2
  have bI := FI.binds (ps := P_Machine___init) fun _ _ _ _ _ _ us hl => match us, hl with | [_, _, _], _ => rfl
  have MC := McT.mk (⟨MF.mkI, MF.ini, MF.fnI, MF.kp⟩ : Mk K CM fI) gM bI (kbn_rev FI fun _ _ _ _ _ _ us ws h1 h2 => match us, ws, h1, h2 with | [_], [_, _], _, _ => by first | rfl | with_unfolding_all rfl | kernel_rfl)

  refine ⟨PySem.W.fnOf "law" "law" (defArgs s_law) (defBody s_law) (defScope s_law) .none kV1 dc1 pm1 an1 cd1 ct1, fun s v => .of_eq rfl, fun base _ _ => ?_⟩
  have A0 : Df K mg "law" s_law fa (PySem.W.fnOf "law" "law" (defArgs s_law) (defBody s_law) (defScope s_law) .none kV1 dc1 pm1 an1 cd1 ct1) P_law := ⟨fun_mk (st := s_law) l1 c1 k1, PySem.W.mg_of X G a1, (fun_mk (st := s_law) l1 c1 k1).binds fun _ _ _ _ _ _ us hl => match us, hl with | [_], _ => rfl⟩
  have G_is_number : FnOk l.prog w K mg base CX0 2 f_is_number g_is_number P_is_number (spT1 isN) := ok_number d_is_number d_is_integer T
  have G_is_below : FnOk l.prog w K mg base CX0 3 f_is_below g_is_below P_is_below spBelowS := ok_below d_is_below d_is_number d_is_integer T
  have GI : FnOk l.prog w K mg base (L2.CX l.prog w) 7 fI _ P_Machine___init (spInit CM CE) := ok_init FI d_is_entry d_is_sequence d_are_below d_is_below d_is_number d_is_integer T TC EM
  have G_is_command : FnOk l.prog w K mg base CX0 4 f_is_command g_is_command P_is_command (spCommand CM) := ok_command d_is_command d_is_below G_is_below TC
  have G_is_state : FnOk l.prog w K mg base CX0 4 f_is_state g_is_state P_is_state (spState CM) := ok_state d_is_state d_is_below G_is_below TC
  have G_checked : FnOk l.prog w K mg base (L2.CX l.prog w) 6 f_checked_row g_checked_row P_checked_row (spCheckedX K CM CW) := ok_checkedX d_checked_row d_is_sequence d_is_command G_is_command T EW
  have G_effect : FnOk l.prog w K mg base (L2.CX l.prog w) 7 f_effect g_effect P_effect (spEffX K CM CW) := ok_effX (fW := fCW) d_effect d_effects d_resting d_followed d_checked_row G_checked T TC
  have G_both : FnOk l.prog w K mg base (L2.CX l.prog w) 8 f_both_ends g_both_ends P_both_ends (spBoth K CM CW) := ok_both d_both_ends d_checked_row d_effect G_checked G_effect
  have G_apart : FnOk l.prog w K mg base CX0 1 f_pair_apart g_pair_apart P_pair_apart spApart := ok_apart d_pair_apart T
  have G_m : FnOk l.prog w K mg base (L2.CX l.prog w) 9 f_mended_states g_mended_states P_mended_states (spMended K CM CW CR) := ok_mended d_mended_states d_is_state d_both_ends G_is_state G_both T zsorted ER
  have G_c : FnOk l.prog w K mg base (L2.CX l.prog w) 9 f_can_be_mended g_can_be_mended P_can_be_mended (spCan K CM CW) := ok_can d_can_be_mended d_both_ends d_pair_apart G_both G_apart
  have GM : FnOk l.prog w K mg base CX0 4 f_law_machine g_law_machine P_law_machine spMachine := ok_machine d_law_machine d_law_any d_law_of d_law_mixed d_law_columns d_law_column T
  have GG : FnOk l.prog w K mg base CX0 5 f_law_graded g_law_graded P_law_graded spGraded := ok_graded d_law_graded d_law_any d_law_of d_law_machine d_law_mixed d_law_columns_of d_law_columns GM T
  have G_due : FnOk l.prog w K mg base CX0 2 f_law_due g_law_due P_law_due spDue := ok_due d_law_due d_law_led zsorted T
  obtain ⟨dm, v_m, b_m⟩ := d_mended_states.F.binds0 (ps := P_mended_states) 4 (by simp) rfl fun D doc pm an cdv ct us ks h1 h2 => match us, ks, h1, h2 with | [_, _, _, _], [_], _, _ => ⟨_, _, _, _, _, _, rfl, rfl, rfl⟩
  obtain ⟨dc, v_c, b_c⟩ := d_can_be_mended.F.binds0 (ps := P_can_be_mended) 3 (by simp) rfl fun D doc pm an cdv ct us ks h1 h2 => match us, ks, h1, h2 with | [_, _, _], [_], _, _ => ⟨_, _, _, _, _, _, rfl, rfl, rfl⟩
  obtain ⟨m1, k_m⟩ := d_mended_states.F.kbinds0 (ps := P_mended_states) 0 ["other", "row", "now", "machine", "since"] [] (fun vs mz zs => g5 zs) (by simp) (fun q hq => by cases hq) (fun _ _ h => g5_rel h) fun D doc pm an cdv ct us mv ws h1 h2 h3 => match us, mv, ws, h1, h2, h3 with | [], [], [_, _, _, _, _], _, _, _ => rfl
  obtain ⟨m2, k_c⟩ := d_can_be_mended.F.kbinds0 (ps := P_can_be_mended) 0 ["other", "row", "machine"] [("since", V.ref p_can_be_mended)] (fun vs mz zs => g3 mz zs) (by simp) (fun q hq => hq) (fun _ h1 h => g3_rel h1 h) fun D doc pm an cdv ct us mv ws h1 h2 h3 => match us, mv, ws, h1, h2, h3 with | [], [_], [_, _, _], _, _, _ => ⟨_, _, _, _, _, _, rfl, rfl, rfl⟩
  obtain ⟨m3, k_p⟩ := d_can_be_mended.F.kbinds0 (ps := P_can_be_mended) 3 ["since"] [] (fun vs mz zs => vs ++ zs) (by simp) (fun q hq => by cases hq) (fun h1 _ h => h1.append h) fun D doc pm an cdv ct us mv ws h1 h2 h3 => match us, mv, ws, h1, h2, h3 with | [_, _, _], [], [_], _, _, _ => rfl
  obtain ⟨m4, p_m⟩ := d_mended_states.F.kbinds0 (ps := P_mended_states) 4 ["since"] [] (fun vs mz zs => vs ++ zs) (by simp) (fun q hq => by cases hq) (fun h1 _ h => h1.append h) fun D doc pm an cdv ct us mv ws h1 h2 h3 => match us, mv, ws, h1, h2, h3 with | [_, _, _, _], [], [_], _, _, _ => rfl
  have G_asked : FnOk l.prog w K mg base CX0 10 f_law_asked g_law_asked P_law_asked (spAsk CM) := ok_asked d_law_asked d_mended_states d_can_be_mended w_mended_states w_can_be_mended b_m v_m k_m k_c k_p G_m G_c EW ER ne
  exact ok_law A0 d_law_draw d_law_graded d_law_any d_law_of d_law_row d_law_corrected d_law_due d_law_asked d_law_wrong d_mended_states d_can_be_mended w_can_be_mended p_m k_p b_c v_c G_m G_c GG G_asked G_due MC GI T
theorem walk {l : PySem.W.OpenLaw} {q : Program} {loose : List Str} {XP : (Str → Option Value) → Heap → Prop} {YP : World → Heap → Prop} {d : DefRec} {K : Params → PySem.W.Frag} (hn : l.most = some 63) (hdf : d.params.defaults = []) (hY : ∀ (w : World) (h : Heap), YP w h → (K w.params).In h)
    (F : ∀ (w : World) (mg : Str → Option Value) (fa : Addr) (h : Heap), (K w.params).In h → h.Ns mainGlobals mg → mg d.name = some (.ref fa) → ∃ fd : FuncData, (∀ (s : Shared) (u : Value), BindsTo s fd ⟨[u], []⟩ [("script", u)]) ∧ ∀ base : Heap, (K w.params).In base → base.Ns mainGlobals mg → FnG l.prog w (K w.params) mg base 11 fa fd ["script"] (spLaw (K w.params))) :
    PySem.W.WalkO q loose XP YP l.row.toRowW d [] (fun f vs => PySem.call f vs) :=
  walk_G (n := 63) (k := 11) (x := "script") (sp := fun w => spLaw (K w.params)) hn (by decide) hdf ⟨rfl, by decide, by decide⟩ hY F fun _ _ a ns hl hS => ⟨a, ns, rfl, hS, hl, fun _ => rfl⟩
end Lk

set_option Elab.async false
open PySem PySem.W PyProof.Rows in
set_option maxRecDepth 100000 in
set_option maxHeartbeats 0 in
theorem PySem.Challenge.cw_lateslips_k41_whole_mended_states_holds : PySem.Challenge.rw_lateslips_k41_whole_mended_states.Holds := by
  w_on; o_law; k_head; (case hw => w_witness2)
  k_fill
  refine Lk.walk (l := PySem.Challenge.rw_lateslips_k41_whole_mended_states) rfl rfl (fun w h Y => PySem.W.kIn_of Y) ?F
  case F =>
    intro w mg fa h KX G hmg
    refine' Lk.all_mk KX G hmg (Lk.mk_is_integer KX G ?a_is_integer ?l_is_integer ?c_is_integer ?k_is_integer) (Lk.mk_is_number KX G ?a_is_number ?l_is_number ?c_is_number ?k_is_number) (Lk.mk_is_below KX G ?a_is_below ?l_is_below ?c_is_below ?k_is_below) (Lk.mk_is_sequence KX G ?a_is_sequence ?l_is_sequence ?c_is_sequence ?k_is_sequence) (Lk.mk_are_below KX G ?a_are_below ?l_are_below ?c_are_below ?k_are_below) (Lk.mk_is_entry KX G ?a_is_entry ?l_is_entry ?c_is_entry ?k_is_entry) (Lk.mk_is_state KX G ?a_is_state ?l_is_state ?c_is_state ?k_is_state) (Lk.mk_is_command KX G ?a_is_command ?l_is_command ?c_is_command ?k_is_command) (Lk.mk_checked_row KX G ?a_checked_row ?l_checked_row ?c_checked_row ?k_checked_row) (Lk.mk_resting KX G ?a_resting ?l_resting ?c_resting ?k_resting) (Lk.mk_effects KX G ?a_effects ?l_effects ?c_effects ?k_effects) (Lk.mk_followed KX G ?a_followed ?l_followed ?c_followed ?k_followed) (Lk.mk_effect KX G ?a_effect ?l_effect ?c_effect ?k_effect) (Lk.mk_pair_apart KX G ?a_pair_apart ?l_pair_apart ?c_pair_apart ?k_pair_apart) (Lk.mk_both_ends KX G ?a_both_ends ?l_both_ends ?c_both_ends ?k_both_ends) (Lk.mk_law_draw KX G ?a_law_draw ?l_law_draw ?c_law_draw ?k_law_draw) (Lk.mk_law_any KX G ?a_law_any ?l_law_any ?c_law_any ?k_law_any) (Lk.mk_law_of KX G ?a_law_of ?l_law_of ?c_law_of ?k_law_of) (Lk.mk_law_mixed KX G ?a_law_mixed ?l_law_mixed ?c_law_mixed ?k_law_mixed) (Lk.mk_law_columns KX G ?a_law_columns ?l_law_columns ?c_law_columns ?k_law_columns) (Lk.mk_law_column KX G ?a_law_column ?l_law_column ?c_law_column ?k_law_column) (Lk.mk_law_machine KX G ?a_law_machine ?l_law_machine ?c_law_machine ?k_law_machine) (Lk.mk_law_row KX G ?a_law_row ?l_law_row ?c_law_row ?k_law_row) (Lk.mk_law_led KX G ?a_law_led ?l_law_led ?c_law_led ?k_law_led) (Lk.mk_law_columns_of KX G ?a_law_columns_of ?l_law_columns_of ?c_law_columns_of ?k_law_columns_of) (Lk.mk_law_graded KX G ?a_law_graded ?l_law_graded ?c_law_graded ?k_law_graded) (Lk.mk_law_corrected KX G ?a_law_corrected ?l_law_corrected ?c_law_corrected ?k_law_corrected) (Lk.mk_law_due KX G ?a_law_due ?l_law_due ?c_law_due ?k_law_due) (Lk.mk_law_asked KX G ?a_law_asked ?l_law_asked ?c_law_asked ?k_law_asked) (Lk.mk_law_wrong KX G ?a_law_wrong ?l_law_wrong ?c_law_wrong ?k_law_wrong) (Lk.mk_mended_states KX G ?a_mended_states ?l_mended_states ?c_mended_states ?k_mended_states ?n_mended_states) (Lk.wt_mk ?w_mended_states) (Lk.mk_can_be_mended KX G ?a_can_be_mended ?l_can_be_mended ?c_can_be_mended ?k_can_be_mended ?n_can_be_mended) (Lk.wt_mk ?w_can_be_mended) ?a1 ?l1 ?c1 ?k1 ?aM ⟨?m_pg, ?m_hd, ?m_po, ?m_sa, ?m_n1, ?m_n2, ?m_n3, ?m_mkI, ?m_ini, ?m_fnI, ?m_kp⟩ ?l2 ?c2 ?k2 (Lk.err_mk (st := L2.inClass (Lk.top 2) 0) KX G ?e1_aC ?e1_xL ⟨?e1_sa, ?e1_ga, ?e1_gg, ?e1_nb, ?e1_a, ?e1_t, ?e1_k, ?e1_e, ?e1_tC, ?e1_h, ?e1_i, ?e1_s⟩ ?e1_l ?e1_c rfl rfl rfl) (Lk.err_mk (st := L2.inClass (Lk.top 3) 0) KX G ?e2_aC ?e2_xL ⟨?e2_sa, ?e2_ga, ?e2_gg, ?e2_nb, ?e2_a, ?e2_t, ?e2_k, ?e2_e, ?e2_tC, ?e2_h, ?e2_i, ?e2_s⟩ ?e2_l ?e2_c rfl rfl rfl) (Lk.err_mk (st := L2.inClass (Lk.top 4) 0) KX G ?e3_aC ?e3_xL ⟨?e3_sa, ?e3_ga, ?e3_gg, ?e3_nb, ?e3_a, ?e3_t, ?e3_k, ?e3_e, ?e3_tC, ?e3_h, ?e3_i, ?e3_s⟩ ?e3_l ?e3_c rfl rfl rfl) (Lk.exm_of ?ne01 ?ne02 ?ne03 ?ne04) (PySem.W.mg_none_of KX G ?z_sorted) ⟨PySem.W.mg_none_of KX G ?zt_len, PySem.W.mg_none_of KX G ?zt_abs, PySem.W.mg_none_of KX G ?zt_int, PySem.W.mg_none_of KX G ?zt_max, PySem.W.mg_none_of KX G ?zt_min, PySem.W.mg_none_of KX G ?zt_range, PySem.W.mg_none_of KX G ?zt_list, PySem.W.mg_none_of KX G ?zt_tuple, PySem.W.mg_none_of KX G ?zt_enumerate, PySem.W.mg_none_of KX G ?zt_zip, PySem.W.mg_none_of KX G ?zt_isinstance, PySem.W.mg_none_of KX G ?zt_all, PySem.W.mg_none_of KX G ?zt_bool, PySem.W.mg_none_of KX G ?zt_repr⟩
    (case a_is_integer => k_is)
    (case l_is_integer => k_is)
    (case c_is_integer => k_is)
    (case k_is_integer => k_is)
    (case a_is_number => k_is)
    (case l_is_number => k_is)
    (case c_is_number => k_is)
    (case k_is_number => k_is)
    (case a_is_below => k_is)
    (case l_is_below => k_is)
    (case c_is_below => k_is)
    (case k_is_below => k_is)
    (case a_is_sequence => k_is)
    (case l_is_sequence => k_is)
    (case c_is_sequence => k_is)
    (case k_is_sequence => k_is)
    (case a_are_below => k_is)
    (case l_are_below => k_is)
    (case c_are_below => k_is)
    (case k_are_below => k_is)
    (case a_is_entry => k_is)
    (case l_is_entry => k_is)
    (case c_is_entry => k_is)
    (case k_is_entry => k_is)
    (case a_is_state => k_is)
    (case l_is_state => k_is)
    (case c_is_state => k_is)
    (case k_is_state => k_is)
    (case a_is_command => k_is)
    (case l_is_command => k_is)
    (case c_is_command => k_is)
    (case k_is_command => k_is)
    (case a_checked_row => k_is)
    (case l_checked_row => k_is)
    (case c_checked_row => k_is)
    (case k_checked_row => k_is)
    (case a_resting => k_is)
    (case l_resting => k_is)
    (case c_resting => k_is)
    (case k_resting => k_is)
    (case a_effects => k_is)
    (case l_effects => k_is)
    (case c_effects => k_is)
    (case k_effects => k_is)
    (case a_followed => k_is)
    (case l_followed => k_is)
    (case c_followed => k_is)
    (case k_followed => k_is)
    (case a_effect => k_is)
    (case l_effect => k_is)
    (case c_effect => k_is)
    (case k_effect => k_is)
    (case a_pair_apart => k_is)
    (case l_pair_apart => k_is)
    (case c_pair_apart => k_is)
    (case k_pair_apart => k_is)
    (case a_both_ends => k_is)
    (case l_both_ends => k_is)
    (case c_both_ends => k_is)
    (case k_both_ends => k_is)
    (case a_law_draw => k_is)
    (case l_law_draw => k_is)
    (case c_law_draw => k_is)
    (case k_law_draw => k_is)
    (case a_law_any => k_is)
    (case l_law_any => k_is)
    (case c_law_any => k_is)
    (case k_law_any => k_is)
    (case a_law_of => k_is)
    (case l_law_of => k_is)
    (case c_law_of => k_is)
    (case k_law_of => k_is)
    (case a_law_mixed => k_is)
    (case l_law_mixed => k_is)
    (case c_law_mixed => k_is)
    (case k_law_mixed => k_is)
    (case a_law_columns => k_is)
    (case l_law_columns => k_is)
    (case c_law_columns => k_is)
    (case k_law_columns => k_is)
    (case a_law_column => k_is)
    (case l_law_column => k_is)
    (case c_law_column => k_is)
    (case k_law_column => k_is)
    (case a_law_machine => k_is)
    (case l_law_machine => k_is)
    (case c_law_machine => k_is)
    (case k_law_machine => k_is)
    (case a_law_row => k_is)
    (case l_law_row => k_is)
    (case c_law_row => k_is)
    (case k_law_row => k_is)
    (case a_law_led => k_is)
    (case l_law_led => k_is)
    (case c_law_led => k_is)
    (case k_law_led => k_is)
    (case a_law_columns_of => k_is)
    (case l_law_columns_of => k_is)
    (case c_law_columns_of => k_is)
    (case k_law_columns_of => k_is)
    (case a_law_graded => k_is)
    (case l_law_graded => k_is)
    (case c_law_graded => k_is)
    (case k_law_graded => k_is)
    (case a_law_corrected => k_is)
    (case l_law_corrected => k_is)
    (case c_law_corrected => k_is)
    (case k_law_corrected => k_is)
    (case a_law_due => k_is)
    (case l_law_due => k_is)
    (case c_law_due => k_is)
    (case k_law_due => k_is)
    (case a_law_asked => k_is)
    (case l_law_asked => k_is)
    (case c_law_asked => k_is)
    (case k_law_asked => k_is)
    (case a_law_wrong => k_is)
    (case l_law_wrong => k_is)
    (case c_law_wrong => k_is)
    (case k_law_wrong => k_is)
    (case a_mended_states => k_is)
    (case l_mended_states => k_is)
    (case c_mended_states => k_is)
    (case k_mended_states => k_is)
    (case n_mended_states => k_is)
    (case w_mended_states => k_is)
    (case a_can_be_mended => k_is)
    (case l_can_be_mended => k_is)
    (case c_can_be_mended => k_is)
    (case k_can_be_mended => k_is)
    (case n_can_be_mended => k_is)
    (case w_can_be_mended => k_is)
    (case a1 => k_is)
    (case l1 => k_is)
    (case c1 => k_is)
    (case k1 => k_is)
    (case aM => k_is)
    (case m_pg => first | k_is | rfl | decide +kernel)
    (case m_hd => first | k_is | rfl | decide +kernel)
    (case m_po => first | k_is | rfl | decide +kernel)
    (case m_sa => first | k_is | rfl | decide +kernel)
    (case m_n1 => first | k_is | rfl | decide +kernel)
    (case m_n2 => first | k_is | rfl | decide +kernel)
    (case m_n3 => first | k_is | rfl | decide +kernel)
    (case m_mkI => first | k_is | rfl | decide +kernel)
    (case m_ini => first | k_is | rfl | decide +kernel)
    (case m_fnI => first | k_is | rfl | decide +kernel)
    (case m_kp => first | k_is | rfl | decide +kernel)
    (case l2 => k_is)
    (case c2 => k_is)
    (case k2 => k_is)
    (case e1_aC => k_is)
    (case e1_xL => k_is)
    (case e1_sa => first | k_is | rfl)
    (case e1_ga => first | k_is | rfl)
    (case e1_gg => first | k_is | rfl)
    (case e1_nb => first | k_is | rfl)
    (case e1_a => first | k_is | rfl)
    (case e1_t => first | k_is | rfl)
    (case e1_k => first | k_is | rfl)
    (case e1_e => first | k_is | rfl)
    (case e1_tC => first | k_is | rfl)
    (case e1_h => first | k_is | rfl)
    (case e1_i => first | k_is | rfl)
    (case e1_s => first | k_is | rfl)
    (case e1_l => k_is)
    (case e1_c => k_is)
    (case e2_aC => k_is)
    (case e2_xL => k_is)
    (case e2_sa => first | k_is | rfl)
    (case e2_ga => first | k_is | rfl)
    (case e2_gg => first | k_is | rfl)
    (case e2_nb => first | k_is | rfl)
    (case e2_a => first | k_is | rfl)
    (case e2_t => first | k_is | rfl)
    (case e2_k => first | k_is | rfl)
    (case e2_e => first | k_is | rfl)
    (case e2_tC => first | k_is | rfl)
    (case e2_h => first | k_is | rfl)
    (case e2_i => first | k_is | rfl)
    (case e2_s => first | k_is | rfl)
    (case e2_l => k_is)
    (case e2_c => k_is)
    (case e3_aC => k_is)
    (case e3_xL => k_is)
    (case e3_sa => first | k_is | rfl)
    (case e3_ga => first | k_is | rfl)
    (case e3_gg => first | k_is | rfl)
    (case e3_nb => first | k_is | rfl)
    (case e3_a => first | k_is | rfl)
    (case e3_t => first | k_is | rfl)
    (case e3_k => first | k_is | rfl)
    (case e3_e => first | k_is | rfl)
    (case e3_tC => first | k_is | rfl)
    (case e3_h => first | k_is | rfl)
    (case e3_i => first | k_is | rfl)
    (case e3_s => first | k_is | rfl)
    (case e3_l => k_is)
    (case e3_c => k_is)
    (case ne01 => k_is)
    (case ne02 => k_is)
    (case ne03 => k_is)
    (case ne04 => first | k_is | rfl)
    (case z_sorted => k_is)
    (case zt_len => k_is)
    (case zt_abs => k_is)
    (case zt_int => k_is)
    (case zt_max => k_is)
    (case zt_min => k_is)
    (case zt_range => k_is)
    (case zt_list => k_is)
    (case zt_tuple => k_is)
    (case zt_enumerate => k_is)
    (case zt_zip => k_is)
    (case zt_isinstance => k_is)
    (case zt_all => k_is)
    (case zt_bool => k_is)
    (case zt_repr => k_is)
