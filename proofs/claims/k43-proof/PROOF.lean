import PyProof.Rows.All
import Wide.All
import OpenK.AllK
import Wide.FinOn
import HandS.ForMost
import HandS.ForExc
import HandS.Wide
import HandS.Style
import HandS.Conv
import HandS.IsInst
import PySem.Challenge.RW_lateslips_k43_corrections_of_heaps
import KE.GoesMore
import PyProof.Draws
import HandS.WideBits
import PyProof.InstEq
import HandS.OwnEq
import HandS.Zip
import HandS.MakeKwOnly
import PyProof.ReprRoads
import PyProof.ReprLen
import HandS.RaiseMore
import HandS.TupAny
import HandS.SortRule
import PyProof.TupleOfSeq
import HandS.Strs
set_option Elab.async false
set_option maxRecDepth 100000
namespace Lk
open PySem L2
def top (i : Nat) : Stmt := PySem.Challenge.pw_lateslips_k43_corrections_of_heaps.main.body.getD i (.Pass ⟨0, 0, 0, 0⟩)

/-! ### heaps: all but the deal stands -/
/-- what H tells stands in H', the two objects of the deal aside -/
def SB (d l : Addr) (H H' : Hp) : Prop := ∀ a o, H a = some o → a ≠ d → a ≠ l → H' a = some o
theorem SB.refl (d l : Addr) (H : Hp) : SB d l H H := fun _ _ h _ _ => h
theorem SB.trans {d l : Addr} {H H1 H2 : Hp} (x : SB d l H H1) (y : SB d l H1 H2) : SB d l H H2 := fun a o h n m => y a o (x a o h n m) n m
theorem SB.new {d l p : Addr} {H : Hp} {o : HO} (h : H p = none) : SB d l H (upd H p o) := fun a u e _ _ => by
  rw [upd_ne (ne_of_none e h)]
  exact e
theorem SB.d {d l : Addr} {H : Hp} {o : HO} : SB d l H (upd H d o) := fun a u e n _ => by
  rw [upd_ne n]
  exact e
theorem SB.l {d l : Addr} {H : Hp} {o : HO} : SB d l H (upd H l o) := fun a u e _ n => by
  rw [upd_ne n]
  exact e
/-- the deal: at d the pair of the great cells left, at l, and the blend -/
structure DealIs (H : Hp) (d l : Addr) (bs : List Int) (b : Int) : Prop where
  hd : H d = some (.lst [.ref l, .int b])
  hl : H l = some (.lst (bs.map V.int))
  pos : ∀ x ∈ bs, 0 ≤ x
  len : bs.length ≤ 48
  b0 : 0 ≤ b
  b1 : b < 2147483647
def DealAt (H : Hp) (d l : Addr) : Prop := ∃ bs b, DealIs H d l bs b
theorem DealIs.ne {H : Hp} {d l : Addr} {bs : List Int} {b : Int} (x : DealIs H d l bs b) : d ≠ l := fun e => by
  have h1 := x.hd
  have h2 := x.hl
  rw [e, h2] at h1
  have h3 := Option.some.inj h1
  injection h3 with h4
  cases bs with
  | nil => cases h4
  | cons y ys =>
    injection h4 with h5
    cases h5
theorem DealIs.new {H : Hp} {d l p : Addr} {o : HO} {bs : List Int} {b : Int} (x : DealIs H d l bs b) (h : H p = none) : DealIs (upd H p o) d l bs b :=
  ⟨by rw [upd_ne (ne_of_none x.hd h)]; exact x.hd, by rw [upd_ne (ne_of_none x.hl h)]; exact x.hl, x.pos, x.len, x.b0, x.b1⟩
theorem DealAt.new {H : Hp} {d l p : Addr} {o : HO} (x : DealAt H d l) (h : H p = none) : DealAt (upd H p o) d l := by
  obtain ⟨bs, b, y⟩ := x
  exact ⟨bs, b, y.new h⟩

/-! ### data: ints in a list -/
theorem dpAll_ints {K : PySem.W.Frag} {H : Hp} : ∀ bs : List Int, DpAll K H (bs.map V.int) (bs.map PyData.int)
  | [] => .nil
  | _ :: bs => .cons (.int _) (dpAll_ints bs)
theorem canLay_ints : ∀ bs : List Int, PyData.canLayAll0 (bs.map PyData.int) = true
  | [] => rfl
  | _ :: bs => by
    show (true && PyData.canLayAll0 (bs.map PyData.int)) = true
    rw [canLay_ints bs] <;> rfl
theorem depth_ints : ∀ bs : List Int, PyData.depthAll (bs.map PyData.int) ≤ 1
  | [] => by decide
  | z :: bs => by
    have h := depth_ints bs
    show max (PyData.depth (.int z)) (PyData.depthAll (bs.map PyData.int)) ≤ 1
    have e : PyData.depth (.int z) = 0 := rfl
    omega
theorem shaped_ints (bs : List Int) : SeqAt.shaped (.list (bs.map PyData.int)) = true := by
  have h1 : PyData.canLay0 (.list (bs.map PyData.int)) = true := canLay_ints bs
  have h2 : PyData.depth (.list (bs.map PyData.int)) = PyData.depthAll (bs.map PyData.int) + 1 := rfl
  have h3 := depth_ints bs
  unfold SeqAt.shaped
  rw [h1, Bool.true_and]
  exact decide_eq_true (by omega)
theorem eqv_nil (ds : List PyData) : PyData.eqv (.list ds) (.list []) = ds.isEmpty := by
  cases ds <;> rfl

/-! ### the facts of the top that the defs lean on -/
/-- a def of the text, at f -/
structure Df (K : PySem.W.Frag) (mg : Str → Option Value) (x : Str) (st : Stmt) (f : Addr) (fd : FuncData) (ps : List Str) : Prop where
  F : Fun K x x st f fd
  g : mg x = some (.ref f)
  b : Binds K fd ps []
structure Txt (mg : Str → Option Value) : Prop where
  len : mg "len" = none
  abs : mg "abs" = none
  int : mg "int" = none
  max : mg "max" = none
  min : mg "min" = none
  range : mg "range" = none
  list : mg "list" = none
  tuple : mg "tuple" = none
  enumerate : mg "enumerate" = none
  zip : mg "zip" = none
  isinstance : mg "isinstance" = none
  all : mg "all" = none
  bool : mg "bool" = none
  repr : mg "repr" = none
end Lk

set_option Elab.async false
set_option maxRecDepth 100000
set_option maxHeartbeats 1000000
namespace Lk
open PySem L2
abbrev s_law_any : Stmt := top 26
abbrev N_law_any : List Str := ["deal", "bound", "rest"]
abbrev P_law_any : List Str := ["deal", "bound"]
theorem sc_law_any : FnScope N_law_any P_law_any (defScope s_law_any) := ⟨rfl, rfl, rfl, by decide +kernel, rfl, by decide +kernel, by decide +kernel⟩
/-- a number below n is drawn, the deal goes on -/
def spAny : Sp := fun vs H Q _ => ∃ (d l : Addr) (n : Int), vs = [.ref d, .int n] ∧ 0 < n ∧ n < 1073741824 ∧ DealAt H d l ∧
  ∀ (H' : Hp) (r : Int), DealAt H' d l → SB d l H H' → 0 ≤ r → r < n → Q (.int r) H'
section
variable {P : Program} {w : World} {K : PySem.W.Frag} {mg : Str → Option Value} {base : Heap}
theorem last_get {bs : List Int} (h : bs ≠ []) : (bs.map V.int)[(bs.map V.int).length - 1]? = some (V.int (bs.getLast h)) := by
  rw [List.length_map, List.getElem?_map]
  have e : bs[bs.length - 1]? = some (bs.getLast h) := by
    rw [List.getLast_eq_getElem]
    exact List.getElem?_eq_getElem _
  rw [e] <;> rfl
theorem atI_last {bs : List Int} (h : bs ≠ []) : atI (bs.map V.int) (-1) = some (V.int (bs.getLast h)) := by
  have hl : 0 < bs.length := List.length_pos_iff.mpr h
  have e : ixN (bs.map V.int).length (-1) = some ((bs.map V.int).length - 1) := by
    unfold ixN
    rw [if_neg (by decide), if_pos (by rw [List.length_map]; omega)]
    have q : ((-1 : Int) + ((bs.map V.int).length : Int)).toNat = (bs.map V.int).length - 1 := by
      rw [List.length_map]
      omega
    rw [q]
  unfold atI
  rw [e]
  exact last_get h
theorem ok_any {f : Addr} {fd : FuncData} (A0 : Df K mg "_law_any" s_law_any f fd P_law_any) (T : Txt mg) : FnOk P w K mg base CX0 1 f fd P_law_any spAny := by
  refine A0.F.ok sc_law_any (fun vs H Q E h => ?_) (fun cdv A outer s H vs Q E hr h => ?_)
  · obtain ⟨d, l, n, rfl, _⟩ := h
    rfl
  · obtain ⟨d, l, n, rfl, n0, n1, D, k⟩ := h
    have hu : A.units + 3 + 64 < cLine := by have := hr.un; simp only [Around.deeper] at this; omega
    refine ⟨_, (pss_cons (ps_while PassesOwn.never (PW.pt (pw_and (pt_cmpR (op_neD hu) (pe_ix ix_list (pv 0) pe_int (fun _ _ => rfl)) (pe_lst pa_nil) (nomark _)) (pw_and1 (pt_cmpR op_eq (pe_ix ix_list (pe_ix ix_list (pv 0) pe_int (fun _ _ => rfl)) (pe_un un_neg pe_int) (fun _ _ => rfl)) pe_int (nomark _)))))
      (pss_one (ps_expr (pe_bm0 PySem.F.plainAttrs_list PySem.F.slot_list_pop PySem.F.type_list_pop mt_pop (pe_ix ix_list (pv 0) pe_int (fun _ _ => rfl))))))
    (pss_cons (ps_if (pt_cmpR (op_neD hu) (pe_ix ix_list (pv 0) pe_int (fun _ _ => rfl)) (pe_lst pa_nil) (nomark _)) (pss_cons (ps_set (i := 2) sc_law_any.nd rfl (Or.inl rfl) (pe_callTy call_int1 (by rfl) T.int (by decide +kernel) (pa_cons (pe_bm0 PySem.F.plainAttrs_list PySem.F.slot_list_pop PySem.F.type_list_pop mt_pop (pe_ix ix_list (pv 0) pe_int (fun _ _ => rfl))) pa_nil)))
      (pss_cons (ps_expr (pe_bm PySem.F.plainAttrs_list PySem.F.slot_list_append PySem.F.type_list_append mt_append (pe_ix ix_list (pv 0) pe_int (fun _ _ => rfl)) (pa_cons (pe_op op_fdivW (pv 2) (pv 1)) pa_nil)))
      (pss_one (ps_ret (pe_op op_mod (pv 2) (pv 1)))))) pss_nil)
    (pss_cons (ps_asg (pe_op op_mod (pe_callTy call_int1 (by rfl) T.int (by decide +kernel) (pa_cons (pe_op op_add (pe_op op_mul (pe_ix ix_list (pv 0) pe_int (fun _ _ => rfl)) pe_int) pe_int) pa_nil)) pe_int) (pg_sub (pv 0) pe_int set_list))
    (pss_one (ps_ret (pe_op op_mod (pe_callTy call_int1 (by rfl) T.int (by decide +kernel) (pa_cons (pe_op op_fdiv (pe_ix ix_list (pv 0) pe_int (fun _ _ => rfl)) pe_int) pa_nil)) (pv 1))))))), ?_⟩
    obtain ⟨bs0, b0, D0⟩ := D
    refine ⟨fun m σ H1 => σ = [some (.ref d), some (.int n), none] ∧ SB d l H H1 ∧ ∃ bs b, DealIs H1 d l bs b ∧ m = bs.length, ⟨_, rfl, SB.refl _ _ _, bs0, b0, D0, rfl⟩, ?_⟩
    rintro m σ H1 ⟨rfl, S1, bs, b, D1, rfl⟩
    refine ⟨_, rfl, d, _, 0, _, rfl, rfl, SqL.of D1.hd, rfl, Nat.zero_le _, fun p hp => ⟨_, _, Dp.lst (SqL.of (D1.new hp).hl) (dpAll_ints _), Dp.lst (SqL.of upd_same) .nil, shaped_ints _, by decide +kernel, _, rfl, ?_⟩⟩
    have D2 := D1.new (o := HO.lst []) hp
    have S2 : SB d l H _ := S1.trans (SB.new (o := HO.lst []) hp)
    rw [eqv_nil]
    -- behind the loop, with a deal that has great cells left or none
    have after : ∀ (H2 : Hp) (bs : List Int) (b : Int), DealIs H2 d l bs b → SB d l H H2 → (bs = [] ∨ ∃ h : bs ≠ [], bs.getLast h ≠ 0) →
        (tSeq (tIfS (tTest (tOp (rNeD K) (tOp (rIxL K) (tVar 0) (tC (.int 0))) (tLst tNil))) (tSeq (tAsg (tCB (fun xs H Q => (∃ i, xs = [.int i] ∧ Q (.int i) H) ∨ ∃ k, xs = [.bl k] ∧ Q (.int (if k then 1 else 0)) H) (tCons (tBM0 K "list" rPop (tOp (rIxL K) (tVar 0) (tC (.int 0)))) tNil)) (gName 2))
          (tSeq (tDrop (tBM K "list" rAppend (tOp (rIxL K) (tVar 0) (tC (.int 0))) (tCons (tOp (rI CDivW fun i j => .int (i / j)) (tVar 2) (tVar 1)) tNil))) (tRet (tOp (rI (fun _ j => 0 < j) fun i j => .int (i % j)) (tVar 2) (tVar 1))))) tNext)
          (tSeq (tAsg (tOp (rI (fun _ j => 0 < j) fun i j => .int (i % j)) (tCB (fun xs H Q => (∃ i, xs = [.int i] ∧ Q (.int i) H) ∨ ∃ k, xs = [.bl k] ∧ Q (.int (if k then 1 else 0)) H) (tCons (tOp (rI0 fun i j => .int (i + j)) (tOp (rI CMul fun i j => .int (i * j)) (tOp (rIxL K) (tVar 0) (tC (.int 1))) (tC (.int 40693))) (tC (.int 71))) tNil)) (tC (.int 2147483647))) (gSub (tVar 0) (tC (.int 1)) rSetL))
            (tRet (tOp (rI (fun _ j => 0 < j) fun i j => .int (i % j)) (tCB (fun xs H Q => (∃ i, xs = [.int i] ∧ Q (.int i) H) ∨ ∃ k, xs = [.bl k] ∧ Q (.int (if k then 1 else 0)) H) (tCons (tOp (rI CDiv fun i j => .int (i / j)) (tOp (rIxL K) (tVar 0) (tC (.int 1))) (tC (.int 64))) tNil)) (tVar 1)))))
          { nx := fun _ H' => Q .non H', rt := Q } [some (.ref d), some (.int n), none] H2 := by
      intro H2 bs b D1 S1 hb
      refine ⟨_, rfl, d, _, 0, _, rfl, rfl, SqL.of D1.hd, rfl, Nat.zero_le _, fun p hp => ⟨_, _, Dp.lst (SqL.of (D1.new hp).hl) (dpAll_ints _), Dp.lst (SqL.of upd_same) .nil, shaped_ints _, by decide +kernel, _, rfl, ?_⟩⟩
      have D2 := D1.new (o := HO.lst []) hp
      have S2 : SB d l H _ := S1.trans (SB.new (o := HO.lst []) hp)
      rw [eqv_nil]
      cases bs with
      | nil =>
        refine iteF ?_
        have m0 : (0 : Int) ≤ (b * 40693 + 71) % 2147483647 := Int.emod_nonneg _ (by decide)
        have m1 : (b * 40693 + 71) % 2147483647 < 2147483647 := Int.emod_lt_of_pos _ (by decide)
        refine ⟨_, rfl, d, _, 1, _, rfl, rfl, SqL.of D2.hd, rfl, _, _, rfl, rfl, .inr ⟨by decide, by decide⟩, _, _, rfl, rfl, .inl ⟨_, rfl, _, _, rfl, rfl, (by show (0 : Int) < 2147483647; decide), ?_⟩⟩
        refine ⟨_, rfl, d, _, 1, 1, rfl, rfl, D2.hd, rfl, ?_⟩
        refine ⟨_, rfl, d, _, 1, _, rfl, rfl, SqL.of upd_same, rfl, _, _, rfl, rfl, ⟨by decide, by decide⟩, .inl ⟨_, rfl, _, rfl, _, _, rfl, rfl, n0, ?_⟩⟩
        refine k _ _ ⟨[], _, ⟨upd_same, ?_, D2.pos, D2.len, m0, m1⟩⟩ (S2.trans SB.d) (Int.emod_nonneg _ (by omega)) (Int.emod_lt_of_pos _ n0)
        rw [upd_ne D2.ne.symm]
        exact D2.hl
      | cons x xs =>
        refine iteT ?_
        have h0 : (0 : Int) ≤ (x :: xs).getLast (List.cons_ne_nil x xs) := D2.pos _ (List.getLast_mem _)
        refine ⟨_, rfl, d, _, 0, _, rfl, rfl, SqL.of D2.hd, rfl, .inl ⟨rfl, _, SqL.of D2.hl⟩, l, _, _, rfl, rfl, D2.hl, last_get (List.cons_ne_nil x xs), .inl ⟨_, rfl, ?_⟩⟩
        have hd3 : upd (upd H2 p (HO.lst [])) l (HO.lst ((x :: xs).map V.int).dropLast) d = some (.lst [.ref l, .int b]) := by
          rw [upd_ne D2.ne]
          exact D2.hd
        refine ⟨_, rfl, d, _, 0, _, rfl, rfl, SqL.of hd3, rfl, .inl ⟨rfl, _, SqL.of upd_same⟩, _, rfl, _, rfl, _, _, rfl, rfl, wide_div n0 (b := 30) (by omega) (by decide) (by decide), l, _, _, rfl, rfl, upd_same, ?_, ?_⟩
        · have := D2.len
          rw [List.length_dropLast, List.length_map]
          exact Nat.lt_of_le_of_lt (by omega : _ ≤ 48) (by decide)
        · refine ⟨_, rfl, _, rfl, _, _, rfl, rfl, n0, ?_⟩
          refine k _ _ ⟨(x :: xs).dropLast ++ [(x :: xs).getLast (List.cons_ne_nil x xs) / n], b, ⟨?_, ?_, ?_, ?_, D2.b0, D2.b1⟩⟩ ((S2.trans SB.l).trans SB.l) (Int.emod_nonneg _ (by omega)) (Int.emod_lt_of_pos _ n0)
          · rw [upd_ne D2.ne]
            exact hd3
          · rw [upd_same, List.map_append, List.map_dropLast]
            rfl
          · intro y hy
            rcases List.mem_append.mp hy with h | h
            · exact D2.pos y (List.dropLast_subset _ h)
            · rw [List.mem_singleton.mp h]
              exact Int.ediv_nonneg h0 (by omega)
          · have := D2.len
            rw [List.length_append, List.length_dropLast]
            simp only [List.length_cons, List.length_nil] at this ⊢
            omega
    cases bs with
    | nil => exact iteF (after _ [] b D2 S2 (.inl rfl))
    | cons x xs =>
      refine iteT ?_
      refine ⟨_, rfl, d, _, 0, _, rfl, rfl, SqL.of D2.hd, rfl, _, rfl, l, _, -1, _, rfl, rfl, SqL.of D2.hl, atI_last (List.cons_ne_nil x xs), rfl, _, rfl, ?_⟩
      refine ite2 (fun h => ?_) (fun h => ?_)
      · refine ⟨fun σ' H' => ∃ m', m' < (x :: xs).length ∧ (σ' = [some (.ref d), some (.int n), none] ∧ SB d l H H' ∧ ∃ bs b, DealIs H' d l bs b ∧ m' = bs.length), fun _ _ h => h, ?_⟩
        refine ⟨_, rfl, d, _, 0, _, rfl, rfl, SqL.of D2.hd, rfl, .inl ⟨rfl, _, SqL.of D2.hl⟩, l, _, _, rfl, rfl, D2.hl, last_get (List.cons_ne_nil x xs), ?_⟩
        refine ⟨(x :: xs).dropLast.length, by rw [List.length_dropLast]; simp, rfl, S2.trans SB.l, (x :: xs).dropLast, b, ⟨?_, ?_, fun y hy => D2.pos y (List.dropLast_subset _ hy), ?_, D2.b0, D2.b1⟩, rfl⟩
        · rw [upd_ne D2.ne]
          exact D2.hd
        · rw [upd_same, List.map_dropLast]
        · have := D2.len
          rw [List.length_dropLast]
          omega
      · refine after _ (x :: xs) b D2 S2 (.inr ⟨List.cons_ne_nil x xs, fun e => h ?_⟩)
        rw [e]
        rfl
end
end Lk

set_option Elab.async false
set_option maxRecDepth 100000
set_option maxHeartbeats 1000000
namespace Lk
open PySem L2
/-! ### what stands but at some places -/
def KP (S : Addr → Prop) (H H' : Hp) : Prop := ∀ a o, H a = some o → ¬ S a → H' a = some o
def dl (d l : Addr) : Addr → Prop := fun a => a = d ∨ a = l
theorem SB.kp {d l : Addr} {H H' : Hp} (x : SB d l H H') : KP (dl d l) H H' := fun a o h n => x a o h (fun e => n (.inl e)) fun e => n (.inr e)
theorem KP.sb {d l : Addr} {H H' : Hp} (x : KP (dl d l) H H') : SB d l H H' := fun a o h n m => x a o h fun e => e.elim n m
theorem KP.refl (S : Addr → Prop) (H : Hp) : KP S H H := fun _ _ h _ => h
theorem KP.trans {S : Addr → Prop} {H H1 H2 : Hp} (x : KP S H H1) (y : KP S H1 H2) : KP S H H2 := fun a o h n => y a o (x a o h n) n
theorem KP.new {S : Addr → Prop} {H : Hp} {p : Addr} {o : HO} (h : H p = none) : KP S H (upd H p o) := fun a u e _ => by
  rw [upd_ne (ne_of_none e h)]
  exact e
theorem KP.mut {S : Addr → Prop} {H H1 : Hp} {p : Addr} {o : HO} (x : KP S H H1) (h : H p = none) : KP S H (upd H1 p o) := fun a u e n => by
  rw [upd_ne (ne_of_none e h)]
  exact x a u e n
theorem KP.same {S : Addr → Prop} {H H1 : Hp} (x : Same H H1) : KP S H H1 := fun a o h _ => x a o h
theorem KP.free {S : Addr → Prop} {H H1 : Hp} {p : Addr} (x : KP S H H1) (n : ¬ S p) (h : H1 p = none) : H p = none := by
  cases e : H p with
  | none => rfl
  | some o =>
    rw [x p o e n] at h
    cases h
theorem KP.get {S : Addr → Prop} {H H1 : Hp} {p : Addr} {o : HO} (x : KP S H H1) (n : ¬ S p) (h : H p = some o) : H1 p = some o := x p o h n
theorem KP.weak {S S' : Addr → Prop} {H H1 : Hp} (x : KP S H H1) (h : ∀ a, S a → S' a) : KP S' H H1 := fun a o e n => x a o e fun q => n (h a q)
theorem kp_upd {S : Addr → Prop} {H : Hp} {p : Addr} {o : HO} (h : S p) : KP S H (upd H p o) := fun a u e n => by
  rw [upd_ne fun q => n (by rw [q]; exact h)]
  exact e
theorem DealIs.out {H H' : Hp} {d l : Addr} {bs : List Int} {b : Int} (x : DealIs H d l bs b) (h1 : H' d = H d) (h2 : H' l = H l) : DealIs H' d l bs b :=
  ⟨h1.trans x.hd, h2.trans x.hl, x.pos, x.len, x.b0, x.b1⟩
theorem DealAt.out {H H' : Hp} {d l : Addr} (x : DealAt H d l) (h1 : H' d = H d) (h2 : H' l = H l) : DealAt H' d l := by
  obtain ⟨bs, b, y⟩ := x
  exact ⟨bs, b, y.out h1 h2⟩
theorem DealAt.upd {H : Hp} {d l p : Addr} {o : HO} (x : DealAt H d l) (n : ¬ dl d l p) : DealAt (upd H p o) d l :=
  x.out (upd_ne fun e => n (.inl e.symm)) (upd_ne fun e => n (.inr e.symm))
theorem DealAt.free {H : Hp} {d l p : Addr} (x : DealAt H d l) (h : H p = none) : ¬ dl d l p := fun e => by
  obtain ⟨bs, b, y⟩ := x
  rcases e with e | e
  · rw [e, y.hd] at h
    cases h
  · rw [e, y.hl] at h
    cases h

/-! ### comprehensions whose turns may draw -/
theorem wipe1 (σ : St) (j : Nat) (x : Option V) : wipe ((wipe σ [j]).set j x) [j] = wipe σ [j] := by
  show (((σ.set j none).set j x).set j none) = σ.set j none
  rw [List.set_set, List.set_set]
section
variable {K : PySem.W.Frag} {j : Nat} {te : TE} {σ : St} {H1 : Hp} {D : Addr} {Qd : Hp → Prop}
/-- what a comprehension keeps: D holds what is made so far -/
def Lcp (S : Addr → Prop) (I : Hp → Prop) (f : Nat → V → Hp → Prop) (H1 : Hp) (D : Addr) (i : Nat) (H : Hp) : Prop :=
  I H ∧ KP S H1 H ∧ ∃ ys : List V, H D = some (.lst ys) ∧ ys.length = i ∧ ∀ k y, ys[k]? = some y → f k y H
theorem Lcp.step {S : Addr → Prop} {I : Hp → Prop} {f : Nat → V → Hp → Prop} {i : Nat} {H H4 : Hp} {y : V} (hD : H1 D = none) (hS : ¬ S D) (mI : ∀ H o, I H → I (upd H D o)) (mf : ∀ i y H H', KP (fun a => S a ∨ a = D) H H' → f i y H → f i y H')
    (hi : i < 1000000) (x : Lcp S I f H1 D i H) (h1 : I H4) (h2 : KP S H H4) (h3 : f i y H4) : ∃ acc, H4 D = some (.lst acc) ∧ acc.length < sizeLine ∧ Lcp S I f H1 D (i + 1) (upd H4 D (.lst (acc ++ [y]))) := by
  obtain ⟨_, k1, ys, e, hl, hf⟩ := x
  refine ⟨ys, h2.get hS e, by rw [hl]; exact Nat.lt_trans hi (by decide), mI _ _ h1, (k1.trans h2).mut hD, ys ++ [y], upd_same, by rw [List.length_append, hl]; rfl, fun k z hz => ?_⟩
  have m1 : KP (fun a => S a ∨ a = D) H4 (upd H4 D (.lst (ys ++ [y]))) := kp_upd (.inr rfl)
  by_cases hk : k < ys.length
  · rw [List.getElem?_append_left hk] at hz
    exact mf _ _ _ _ ((h2.weak fun a q => .inl q).trans m1) (hf k z hz)
  · rw [List.getElem?_append_right (by omega)] at hz
    have hk0 : k - ys.length = 0 := by
      cases q : k - ys.length with
      | zero => rfl
      | succ m => rw [q] at hz; simp at hz
    rw [hk0] at hz
    have ez : y = z := Option.some.inj hz
    rw [← ez, show k = i by omega]
    exact mf _ _ _ _ m1 h3
theorem Lcp.zero {S : Addr → Prop} {I : Hp → Prop} {f : Nat → V → Hp → Prop} (hD : H1 D = none) (mI : ∀ H o, I H → I (upd H D o)) (h : I H1) : Lcp S I f H1 D 0 (upd H1 D (.lst [])) :=
  ⟨mI _ _ h, KP.new hD, [], upd_same, rfl, fun k y e => by simp at e⟩
theorem lcR {lo : Int} {n : Nat} (S : Addr → Prop) (I : Hp → Prop) (f : Nat → V → Hp → Prop) (hD : H1 D = none) (hS : ¬ S D) (hn : n ≤ 1000000) (hI : I H1) (mI : ∀ H o, I H → I (upd H D o))
    (mf : ∀ i y H H', KP (fun a => S a ∨ a = D) H H' → f i y H → f i y H')
    (hs : ∀ i H acc, i < n → I H → KP S H1 H → H D = some (.lst acc) → ∀ Q : VK, (∀ y H4, I H4 → KP S H H4 → f i y H4 → Q y H4) → te ((wipe σ [j]).set j (some (.int (lo + i)))) H Q)
    (hd : ∀ ys H', ys.length = n → (∀ i y, ys[i]? = some y → f i y H') → H' D = some (.lst ys) → I H' → KP S H1 H' → Qd H') :
    ∃ W : Nat → Nat → Hp → Prop, (∃ m, W 0 m (upd H1 D (.lst []))) ∧ ∀ i m H, W i m H →
      ((Itr lo n).stop i H ∧ Qd H) ∨ ((Itr lo n).go i H ∧ ∃ Nx : Hp → Prop, (∀ H', Nx H' → ∃ m', m' < m ∧ W (i + 1) m' H') ∧ ∀ x H', (Itr lo n).yld i H x H' → gName j x (wipe σ [j]) H' fun σ2 H2 => wipe σ2 [j] = wipe σ [j] ∧ tYes σ2 H2 fun b H3 =>
        if b = true then te σ2 H3 fun y H4 => ∃ acc, H4 D = some (.lst acc) ∧ acc.length < sizeLine ∧ Nx (upd H4 D (.lst (acc ++ [y]))) else Nx H3) := by
  refine lc_range (Lcp S I f H1 D) (Lcp.zero hD mI hI) (fun i H hi x => ?_) (fun H x => ?_)
  · refine ⟨wipe1 _ _ _, iteT (B := Lcp S I f H1 D (i + 1) H) ?_⟩
    obtain ⟨acc, e⟩ : ∃ acc, H D = some (.lst acc) := by
      obtain ⟨_, _, ys, e, _⟩ := x
      exact ⟨ys, e⟩
    exact hs i H acc hi x.1 x.2.1 e _ fun y H4 h1 h2 h3 => x.step hD hS mI mf (by omega) h1 h2 h3
  · obtain ⟨h1, h2, ys, e, hl, hf⟩ := x
    exact hd ys H hl hf e h1 h2
theorem lcL {a : Addr} {xs : List V} (S : Addr → Prop) (I : Hp → Prop) (f : Nat → V → Hp → Prop) (hD : H1 D = none) (hS : ¬ S D) (hn : xs.length ≤ 1000000) (hI : I H1) (mI : ∀ H o, I H → I (upd H D o))
    (mf : ∀ i y H H', KP (fun a => S a ∨ a = D) H H' → f i y H → f i y H') (ha : ∀ H, KP S H1 H → SqL K H a xs)
    (hs : ∀ i x H acc, xs[i]? = some x → I H → KP S H1 H → H D = some (.lst acc) → ∀ Q : VK, (∀ y H4, I H4 → KP S H H4 → f i y H4 → Q y H4) → te ((wipe σ [j]).set j (some x)) H Q)
    (hd : ∀ ys H', ys.length = xs.length → (∀ i y, ys[i]? = some y → f i y H') → H' D = some (.lst ys) → I H' → KP S H1 H' → Qd H') :
    ∃ W : Nat → Nat → Hp → Prop, (∃ m, W 0 m (upd H1 D (.lst []))) ∧ ∀ i m H, W i m H →
      ((Itl K a).stop i H ∧ Qd H) ∨ ((Itl K a).go i H ∧ ∃ Nx : Hp → Prop, (∀ H', Nx H' → ∃ m', m' < m ∧ W (i + 1) m' H') ∧ ∀ x H', (Itl K a).yld i H x H' → gName j x (wipe σ [j]) H' fun σ2 H2 => wipe σ2 [j] = wipe σ [j] ∧ tYes σ2 H2 fun b H3 =>
        if b = true then te σ2 H3 fun y H4 => ∃ acc, H4 D = some (.lst acc) ∧ acc.length < sizeLine ∧ Nx (upd H4 D (.lst (acc ++ [y]))) else Nx H3) := by
  refine lc_list (xs := xs) (Lcp S I f H1 D) (Lcp.zero hD mI hI) (fun i H _ x => ha H x.2.1) (fun i x0 H hi x => ?_) (fun H x => ?_)
  · have hi' : i < xs.length := (List.getElem?_eq_some_iff.mp hi).1
    refine ⟨wipe1 _ _ _, iteT (B := Lcp S I f H1 D (i + 1) H) ?_⟩
    obtain ⟨acc, e⟩ : ∃ acc, H D = some (.lst acc) := by
      obtain ⟨_, _, ys, e, _⟩ := x
      exact ⟨ys, e⟩
    exact hs i x0 H acc hi x.1 x.2.1 e _ fun y H4 h1 h2 h3 => x.step hD hS mI mf (by omega) h1 h2 h3
  · obtain ⟨h1, h2, ys, e, hl, hf⟩ := x
    exact hd ys H hl hf e h1 h2
end
end Lk

set_option Elab.async false
set_option maxRecDepth 100000
set_option maxHeartbeats 1000000
namespace Lk
open PySem L2
abbrev s_law_of : Stmt := top 27
abbrev N_law_of : List Str := ["deal", "some"]
abbrev P_law_of : List Str := ["deal", "some"]
theorem sc_law_of : FnScope N_law_of P_law_of (defScope s_law_of) := ⟨rfl, rfl, rfl, by decide +kernel, rfl, by decide +kernel, by decide +kernel⟩
abbrev s_law_mixed : Stmt := top 28
abbrev N_law_mixed : List Str := ["deal", "some", "left", "found"]
abbrev P_law_mixed : List Str := ["deal", "some"]
theorem sc_law_mixed : FnScope N_law_mixed P_law_mixed (defScope s_law_mixed) := ⟨rfl, rfl, rfl, by decide +kernel, rfl, by decide +kernel, by decide +kernel⟩
/-- some item of the list -/
def spOf : Sp := fun vs H Q _ => ∃ (d l a : Addr) (xs : List V), vs = [.ref d, .ref a] ∧ H a = some (.lst xs) ∧ ¬ dl d l a ∧ 0 < xs.length ∧ xs.length ≤ 1000 ∧ DealAt H d l ∧
  ∀ (H' : Hp) (i : Nat) (v : V), DealAt H' d l → SB d l H H' → xs[i]? = some v → Q v H'
/-- the ints of a list in some order, in a new list -/
def spMixed (K : PySem.W.Frag) : Sp := fun vs H Q _ => ∃ (d l a : Addr) (ns : List Int), vs = [.ref d, .ref a] ∧ SqL K H a (ns.map V.int) ∧ ns.length ≤ 1000 ∧ DealAt H d l ∧
  ∀ (H' : Hp) (p : Addr) (ms : List Int), DealAt H' d l → SB d l H H' → H p = none → H' p = some (.lst (ms.map V.int)) → ms.Perm ns → Q (.ref p) H'
section
variable {P : Program} {w : World} {K : PySem.W.Frag} {mg : Str → Option Value} {base : Heap}
theorem atI_int {α : Type} {xs : List α} {r : Int} {v : α} (h0 : 0 ≤ r) (h : xs[r.toNat]? = some v) : atI xs r = some v := by
  obtain ⟨n, rfl⟩ := Int.eq_ofNat_of_zero_le h0
  exact atI_nat h
theorem eraseIdx_map {α β : Type} (g : α → β) : ∀ (xs : List α) (i : Nat), (xs.map g).eraseIdx i = (xs.eraseIdx i).map g
  | [], _ => rfl
  | _ :: _, 0 => rfl
  | _ :: xs, i + 1 => congrArg (_ :: ·) (eraseIdx_map g xs i)
theorem perm_erase {α : Type} : ∀ {xs : List α} {i : Nat} (h : i < xs.length), ([xs[i]] ++ xs.eraseIdx i).Perm xs
  | [], _, h => absurd h (Nat.not_lt_zero _)
  | x :: xs, 0, _ => List.Perm.refl _
  | x :: xs, i + 1, h => by
    have h' : i < xs.length := Nat.lt_of_succ_lt_succ h
    have ih := perm_erase (xs := xs) (i := i) h'
    show ([xs[i]] ++ (x :: xs.eraseIdx i)).Perm (x :: xs)
    exact (List.Perm.swap x xs[i] (xs.eraseIdx i)).trans (ih.cons x)
theorem ok_of {f fa : Addr} {fd fda : FuncData} (A0 : Df K mg "_law_of" s_law_of f fd P_law_of) (d_law_any : Df K mg "_law_any" s_law_any fa fda P_law_any) (T : Txt mg) : FnOk P w K mg base CX0 2 f fd P_law_of spOf := by
  have G_law_any : FnOk P w K mg base CX0 1 fa fda P_law_any spAny := ok_any d_law_any T
  refine A0.F.ok sc_law_of (fun vs H Q E h => ?_) (fun cdv A outer s H vs Q E hr h => ?_)
  · obtain ⟨d, l, a, xs, rfl, _⟩ := h
    rfl
  · obtain ⟨d, l, a, xs, rfl, hx, na, h0, h1, D, k⟩ := h
    refine ⟨_, (pss_one (ps_ret (pe_ix ix_list (pv 1) (pe_call G_law_any (hr.mono (by decide)) rfl d_law_any.g d_law_any.F.kp d_law_any.b .nil pass0 (pa_cons (pv 0) (pa_cons (pe_callB call_len_seq (by rfl) T.len PySem.boot_len (pa_cons (pv 1) pa_nil)) pa_nil))) (fun _ _ => rfl)))), ?_⟩
    refine ⟨_, rfl, _, rfl, _, rfl, a, xs, rfl, .inl (SqL.of hx), d, l, _, rfl, by omega, by omega, D, fun H' r D' S' r0 r1 => ?_⟩
    have hx' : H' a = some (.lst xs) := S'.kp.get na hx
    have hi : r.toNat < xs.length := by omega
    refine ⟨a, xs, r, xs[r.toNat], rfl, rfl, SqL.of hx', ?_, ?_⟩
    · exact atI_int r0 (List.getElem?_eq_getElem hi)
    · exact k H' r.toNat _ D' S' (List.getElem?_eq_getElem hi)
theorem ok_mixed {f fa : Addr} {fd fda : FuncData} (A0 : Df K mg "_law_mixed" s_law_mixed f fd P_law_mixed) (d_law_any : Df K mg "_law_any" s_law_any fa fda P_law_any) (T : Txt mg) : FnOk P w K mg base CX0 2 f fd P_law_mixed (spMixed K) := by
  have G_law_any : FnOk P w K mg base CX0 1 fa fda P_law_any spAny := ok_any d_law_any T
  refine A0.F.ok sc_law_mixed (fun vs H Q E h => ?_) (fun cdv A outer s H vs Q E hr h => ?_)
  · obtain ⟨d, l, a, xs, rfl, _⟩ := h
    rfl
  · obtain ⟨d, l, a, ns, rfl, hx, h1, D, k⟩ := h
    have hu : A.units + 3 + 64 < cLine := by have := hr.un; simp only [Around.deeper] at this; omega
    refine ⟨_, (pss_cons (ps_par (i := 2) (j := 3) rfl sc_law_mixed.nd rfl rfl (by decide) rfl rfl (pa_cons (pe_callTy call_list_of (by rfl) T.list (by decide +kernel) (pa_cons (pv 1) pa_nil)) (pa_cons (pe_lst pa_nil) pa_nil)) rfl)
    (pss_cons (ps_while PassesOwn.never (pt_cmpR (op_neD hu) (pv 2) (pe_lst pa_nil) (nomark _))
      (pss_one (ps_expr (pe_bm PySem.F.plainAttrs_list PySem.F.slot_list_append PySem.F.type_list_append mt_append (pv 3) (pa_cons (pe_bm PySem.F.plainAttrs_list PySem.F.slot_list_pop PySem.F.type_list_pop mt_popAt (pv 2) (pa_cons (pe_call G_law_any (hr.mono (by decide)) rfl d_law_any.g d_law_any.F.kp d_law_any.b .nil pass0 (pa_cons (pv 0) (pa_cons (pe_callB call_len_seq (by rfl) T.len PySem.boot_len (pa_cons (pv 2) pa_nil)) pa_nil))) pa_nil)) pa_nil)))))
    (pss_one (ps_ret (pv 3))))), ?_⟩
    refine ⟨_, rfl, a, _, rfl, .inl hx, fun q hq => ⟨Nat.zero_le _, fun r hr0 => ⟨_, _, rfl, ?_⟩⟩⟩
    have nqr : q ≠ r := fun e => by rw [← e, upd_same] at hr0; cases hr0
    have q0 : H q = none := hq
    have r0 : H r = none := by rw [upd_ne nqr.symm] at hr0; exact hr0
    refine ⟨fun m σ H1 => ∃ ls fs : List Int, σ = [some (.ref d), some (.ref a), some (.ref q), some (.ref r)] ∧ DealAt H1 d l ∧ SB d l H H1 ∧ H1 q = some (.lst (ls.map V.int)) ∧ H1 r = some (.lst (fs.map V.int)) ∧ (fs ++ ls).Perm ns ∧ m = ls.length,
      ⟨_, ns, [], rfl, ?_, ?_, ?_, ?_, List.Perm.refl _, rfl⟩, ?_⟩
    · exact (D.new hq).new hr0
    · exact ((KP.new (S := dl d l) hq).trans (KP.new hr0)).sb
    · rw [upd_ne nqr, upd_same]
    · rw [upd_same]
      rfl
    · rintro m σ H1 ⟨ls, fs, rfl, D1, S1, hq1, hr1, hp, rfl⟩
      refine ⟨_, rfl, Nat.zero_le _, fun z hz => ⟨_, _, Dp.lst (SqL.of (by rw [upd_ne (ne_of_none hq1 hz)]; exact hq1)) (dpAll_ints _), Dp.lst (SqL.of upd_same) .nil, shaped_ints _, by decide +kernel, _, rfl, ?_⟩⟩
      have D2 := D1.new (o := HO.lst []) hz
      have S2 : SB d l H _ := S1.trans (SB.new (o := HO.lst []) hz)
      have hq2 : upd H1 z (HO.lst []) q = some (.lst (ls.map V.int)) := by rw [upd_ne (ne_of_none hq1 hz)]; exact hq1
      have hr2 : upd H1 z (HO.lst []) r = some (.lst (fs.map V.int)) := by rw [upd_ne (ne_of_none hr1 hz)]; exact hr1
      rw [eqv_nil]
      have nq : ¬ dl d l q := D.free q0
      have nr : ¬ dl d l r := D.free r0
      cases ls with
      | nil =>
        refine iteF ?_
        refine ⟨_, rfl, ?_⟩
        rw [List.append_nil] at hp
        exact k _ r fs D2 S2 r0 hr2 hp
      | cons x xs =>
        refine iteT ⟨fun σ' H' => ∃ m', m' < (x :: xs).length ∧ ∃ ls fs : List Int, σ' = [some (.ref d), some (.ref a), some (.ref q), some (.ref r)] ∧ DealAt H' d l ∧ SB d l H H' ∧ H' q = some (.lst (ls.map V.int)) ∧ H' r = some (.lst (fs.map V.int)) ∧ (fs ++ ls).Perm ns ∧ m' = ls.length, fun _ _ h => h, ?_⟩
        have hlen : (x :: xs).length ≤ 1000 := by
          have := hp.length_eq
          rw [List.length_append] at this
          omega
        refine ⟨_, rfl, .inl ⟨rfl, _, SqL.of hr2⟩, _, rfl, .inl ⟨rfl, _, SqL.of hq2⟩, _, rfl, _, rfl, q, _, rfl, .inl (SqL.of hq2), d, l, _, rfl, by rw [List.length_map]; simp, by rw [List.length_map]; omega, D2, fun H3 i D3 S3 i0 i1 => ?_⟩
        rw [List.length_map] at i1
        have hi : i.toNat < (x :: xs).length := by omega
        have hq3 : H3 q = some (.lst ((x :: xs).map V.int)) := S3.kp.get nq hq2
        have hr3 : H3 r = some (.lst (fs.map V.int)) := S3.kp.get nr hr2
        refine ⟨q, _, i, i.toNat, V.int (x :: xs)[i.toNat], rfl, rfl, hq3, by omega, by omega, seqIndex_of i0 (by rw [List.length_map]; exact i1), ?_, ?_⟩
        · rw [List.getElem?_map, List.getElem?_eq_getElem hi]
          rfl
        · refine ⟨r, _, _, rfl, rfl, by rw [upd_ne nqr.symm]; exact hr3, ?_, ?_⟩
          · have := hp.length_eq
            rw [List.length_append] at this
            rw [List.length_map]
            exact Nat.lt_of_le_of_lt (by omega : _ ≤ 1000) (by decide)
          · refine ⟨((x :: xs).eraseIdx i.toNat).length, ?_, (x :: xs).eraseIdx i.toNat, fs ++ [(x :: xs)[i.toNat]], rfl, ?_, ?_, ?_, ?_, ?_, rfl⟩
            · rw [List.length_eraseIdx, if_pos hi]
              omega
            · exact (D3.upd nq).upd nr
            · exact (((S2.trans S3).kp.mut q0).mut r0).sb
            · rw [upd_ne nqr, upd_same, eraseIdx_map]
            · rw [upd_same, List.map_append]
              rfl
            · rw [List.append_assoc]
              refine (List.Perm.append_left fs ?_).trans hp
              exact perm_erase hi
end
end Lk

set_option Elab.async false
set_option maxRecDepth 100000
set_option maxHeartbeats 1000000
namespace Lk
open PySem L2
/-! ### lists of lists of ints -/
theorem collect {τ : Type} {g : τ → V} : ∀ {ys : List V} {Φ : Nat → τ → Prop}, (∀ i y, ys[i]? = some y → ∃ t, y = g t ∧ Φ i t) → ∃ ts : List τ, ys = ts.map g ∧ ∀ i t, ts[i]? = some t → Φ i t
  | [], _, _ => ⟨[], rfl, fun i t h => by simp at h⟩
  | y :: ys, Φ, h => by
    obtain ⟨t, rfl, h0⟩ := h 0 y rfl
    obtain ⟨ts, rfl, h1⟩ := collect (ys := ys) (Φ := fun i => Φ (i + 1)) fun i y e => h (i + 1) y e
    refine ⟨t :: ts, rfl, fun i u e => ?_⟩
    cases i with
    | zero =>
      have e' : t = u := Option.some.inj e
      rw [← e']
      exact h0
    | succ i => exact h1 i u e
structure GridAt (H : Hp) (p : Addr) (ts : List (Addr × List Int)) : Prop where
  top : H p = some (.lst (ts.map fun t => V.ref t.1))
  row : ∀ t ∈ ts, H t.1 = some (.lst (t.2.map V.int))
structure NewG (H : Hp) (p : Addr) (ts : List (Addr × List Int)) : Prop where
  top : H p = none
  row : ∀ t ∈ ts, H t.1 = none
theorem GridAt.kp {S : Addr → Prop} {H H' : Hp} {p : Addr} {ts : List (Addr × List Int)} (x : GridAt H p ts) (k : KP S H H') (h : ¬ S p) (hr : ∀ t ∈ ts, ¬ S t.1) : GridAt H' p ts :=
  ⟨k.get h x.top, fun t ht => k.get (hr t ht) (x.row t ht)⟩
theorem GridAt.same {H H' : Hp} {p : Addr} {ts : List (Addr × List Int)} (x : GridAt H p ts) (k : Same H H') : GridAt H' p ts := ⟨k _ _ x.top, fun t ht => k _ _ (x.row t ht)⟩
theorem KP.toSame {H H' : Hp} (x : KP (fun _ => False) H H') : Same H H' := fun a o h => x a o h id
theorem mem_of_get {α : Type} {xs : List α} {i : Nat} {x : α} (h : xs[i]? = some x) : x ∈ xs := List.mem_of_getElem? h
abbrev s_law_columns : Stmt := top 29
abbrev N_law_columns : List Str := ["columns", "column", "state"]
abbrev P_law_columns : List Str := ["columns"]
theorem sc_law_columns : FnScope N_law_columns P_law_columns (defScope s_law_columns) := ⟨rfl, rfl, rfl, by decide +kernel, rfl, by decide +kernel, by decide +kernel⟩
/-- columns turned into rows: of each row the length, and where its ints come from -/
def spColumns : Sp := fun vs H Q _ => ∃ (a : Addr) (ts : List (Addr × List Int)) (n : Nat), vs = [.ref a] ∧ GridAt H a ts ∧ 0 < ts.length ∧ ts.length ≤ 1000 ∧ n ≤ 1000 ∧ (∀ t ∈ ts, t.2.length = n) ∧
  ∀ (H' : Hp) (p : Addr) (us : List (Addr × List Int)), Same H H' → NewG H p us → GridAt H' p us → us.length = n → (∀ u ∈ us, u.2.length = ts.length ∧ ∀ z ∈ u.2, ∃ t ∈ ts, z ∈ t.2) → Q (.ref p) H'
section
variable {P : Program} {w : World} {K : PySem.W.Frag} {mg : Str → Option Value} {base : Heap}
theorem ok_columns {f : Addr} {fd : FuncData} (A0 : Df K mg "_law_columns" s_law_columns f fd P_law_columns) (T : Txt mg) : FnOk P w K mg base CX0 1 f fd P_law_columns spColumns := by
  refine A0.F.ok sc_law_columns (fun vs H Q E h => ?_) (fun cdv A outer s H vs Q E hr h => ?_)
  · obtain ⟨a, ts, n, rfl, _⟩ := h
    rfl
  · obtain ⟨a, ts, n, rfl, G, t0, t1, n1, hn, k⟩ := h
    refine ⟨_, (pss_one (ps_ret (pe_lc (own := [("state", 2)]) (g := gName 2) (tt := tYes) (te := tLc (iList K (tVar 0)) (gName 1) tYes (tOp (rIxL K) (tVar 1) (tVar 2)) [1]) rfl sc_law_columns.nd (pi_range1 rfl T.range (pa_cons (pe_callB call_len_seq (by rfl) T.len PySem.boot_len (pa_cons (pe_ix ix_list (pv 0) pe_int (fun _ _ => rfl)) pa_nil)) pa_nil)) (blkOk_by (N := N_law_columns) (sc := defScope s_law_columns) (by decide +kernel)) (fun _ _ _ _ _ => (pg_name (i := 2) sc_law_columns.nd rfl (Or.inr rfl))) (fun _ _ _ _ _ => pts_nil)
      (fun _ _ _ _ _ => (pe_lc (own := [("column", 1)]) (wi := iList K (tVar 0)) (g := gName 1) (tt := tYes) (te := tOp (rIxL K) (tVar 1) (tVar 2)) rfl sc_law_columns.nd (pi_list (pv 0)) (blkOk_by (N := N_law_columns) (sc := { kind := .function, names := [(".0", .local), ("state", .cell), ("columns", .cell)], isGenerator := false, isCoroutine := false }) (by decide +kernel)) (fun _ _ _ _ _ => (pg_name (i := 1) sc_law_columns.nd rfl (Or.inl rfl))) (fun _ _ _ _ _ => pts_nil) (fun _ _ _ _ _ => (pe_ix ix_list (pv 1) (pv 2) (fun _ _ => rfl)))))))), ?_⟩
    obtain ⟨u0, us, rfl⟩ : ∃ u0 us, ts = u0 :: us := by
      cases ts with
      | nil => simp at t0
      | cons u0 us => exact ⟨u0, us, rfl⟩
    have h00 := hn u0 List.mem_cons_self
    refine ⟨_, rfl, a, _, 0, V.ref u0.1, rfl, rfl, SqL.of G.top, atI_int (by decide) rfl, u0.1, _, rfl, .inl (SqL.of (G.row u0 List.mem_cons_self)), _, rfl, by omega, by rw [List.length_map]; omega, fun D hD => ?_⟩
    rw [List.length_map, h00]
    refine lcR (fun _ => False) (fun _ => True) (fun i y H' => ∃ t : Addr × List Int, y = V.ref t.1 ∧ H t.1 = none ∧ t.1 ≠ D ∧ H' t.1 = some (.lst (t.2.map V.int)) ∧ t.2.length = (u0 :: us).length ∧ ∀ z ∈ t.2, ∃ q ∈ (u0 :: us), z ∈ q.2)
      hD id (by simp; omega) trivial (fun _ _ _ => trivial) (fun i y H1 H2 kp ⟨t, e, h1, h2, h3, h4⟩ => ⟨t, e, h1, h2, kp.get (fun q => q.elim id h2) h3, h4⟩) (fun i H1 acc hi _ k1 hD1 Q1 kQ => ?_) (fun ys H' hl hf hD' _ kp => ?_)
    · simp at hi
      have G1 : GridAt H1 a (u0 :: us) := G.same k1.toSame
      refine ⟨_, rfl, a, rfl, ⟨_, SqL.of G1.top⟩, fun D2 hD2 => ?_⟩
      refine lcL (xs := (u0 :: us).map fun t => V.ref t.1) (fun _ => False) (fun _ => True) (fun i y _ => ∃ z : Int, y = V.int z ∧ ∃ q ∈ (u0 :: us), z ∈ q.2) hD2 id (by rw [List.length_map]; omega) trivial (fun _ _ _ => trivial) (fun _ _ _ _ _ x => x) (fun H2 kp => SqL.of (kp.get id G1.top))
        (fun j x H2 acc2 hj _ k2 _ Q2 kQ2 => ?_) (fun ys2 H3 hl2 hf2 hD3 _ kp3 => ?_)
      · rw [List.getElem?_map] at hj
        obtain ⟨t, ht, rfl⟩ : ∃ t, (u0 :: us)[j]? = some t ∧ V.ref t.1 = x := by
          cases e : (u0 :: us)[j]? with
          | none => rw [e] at hj; cases hj
          | some t => rw [e] at hj; exact ⟨t, rfl, Option.some.inj hj⟩
        have hm := mem_of_get ht
        have hlt : i < t.2.length := by rw [hn t hm]; exact hi
        refine ⟨_, rfl, _, rfl, t.1, _, _, V.int t.2[i], rfl, rfl, SqL.of (k2.get id (G1.row t hm)), ?_, kQ2 _ _ trivial (KP.refl _ _) ⟨_, rfl, t, hm, List.getElem_mem hlt⟩⟩
        refine atI_int (by omega) ?_
        have e : ((0 : Int) + (i : Int)).toNat = i := by omega
        rw [e, List.getElem?_map, List.getElem?_eq_getElem hlt]
        rfl
      · obtain ⟨zs, rfl, hz⟩ := collect (g := V.int) hf2
        refine kQ _ _ trivial kp3 ⟨(D2, zs), rfl, k1.free id hD2, fun e => ?_, hD3, by rw [List.length_map] at hl2; rw [hl2, List.length_map], fun z hz' => ?_⟩
        · have e' : D2 = D := e
          rw [e', hD1] at hD2
          cases hD2
        · obtain ⟨j, hj⟩ := List.getElem?_of_mem hz'
          exact hz j z hj
    · obtain ⟨vs, rfl, hv⟩ := collect (g := fun t : Addr × List Int => V.ref t.1) hf
      have hv' : ∀ t ∈ vs, H t.1 = none ∧ t.1 ≠ D ∧ H' t.1 = some (.lst (t.2.map V.int)) ∧ t.2.length = (u0 :: us).length ∧ ∀ z ∈ t.2, ∃ q ∈ (u0 :: us), z ∈ q.2 := fun t ht => by
        obtain ⟨j, hj⟩ := List.getElem?_of_mem ht
        exact hv j t hj
      refine k H' D vs kp.toSame ⟨hD, fun t ht => (hv' t ht).1⟩ ⟨hD', fun t ht => (hv' t ht).2.2.1⟩ ?_ fun t ht => (hv' t ht).2.2.2
      rw [List.length_map] at hl
      rw [hl]
      simp
end
end Lk

set_option Elab.async false
set_option maxRecDepth 100000
set_option maxHeartbeats 1000000
namespace Lk
open PySem L2
abbrev s_law_column : Stmt := top 30
abbrev N_law_column : List Str := ["deal", "form", "many", "to", "state", "half"]
abbrev P_law_column : List Str := ["deal", "form", "many"]
theorem sc_law_column : FnScope N_law_column P_law_column (defScope s_law_column) := ⟨rfl, rfl, rfl, by decide +kernel, rfl, by decide +kernel, by decide +kernel⟩
/-- a column: as many ints as there are states, each a state -/
def spColumn : Sp := fun vs H Q _ => ∃ (d l : Addr) (form n : Int), vs = [.ref d, .int form, .int n] ∧ 0 < n ∧ n ≤ 1000 ∧ DealAt H d l ∧
  ∀ (H' : Hp) (p : Addr) (ns : List Int), DealAt H' d l → SB d l H H' → H p = none → H' p = some (.lst (ns.map V.int)) → (ns.length : Int) = n → (∀ z ∈ ns, 0 ≤ z ∧ z < n) → Q (.ref p) H'
section
variable {j : Nat} {te : TE} {σ : St} {H1 : Hp} {D : Addr} {Qd : Hp → Prop} {d l : Addr}
/-- a list of drawn ints over a range -/
theorem lcI {n : Nat} (φ : Nat → Int → Prop) (hD : H1 D = none) (hI : DealAt H1 d l) (hn : n ≤ 1000000)
    (hs : ∀ i H, i < n → DealAt H d l → SB d l H1 H → ∀ Q : VK, (∀ z H4, DealAt H4 d l → SB d l H H4 → φ i z → Q (.int z) H4) → te ((wipe σ [j]).set j (some (.int (0 + i)))) H Q)
    (hd : ∀ (ns : List Int) H', ns.length = n → (∀ (i : Nat) z, ns[i]? = some z → φ i z) → H' D = some (.lst (ns.map V.int)) → DealAt H' d l → SB d l H1 H' → Qd H') :
    ∃ W : Nat → Nat → Hp → Prop, (∃ m, W 0 m (upd H1 D (.lst []))) ∧ ∀ i m H, W i m H →
      ((Itr 0 n).stop i H ∧ Qd H) ∨ ((Itr 0 n).go i H ∧ ∃ Nx : Hp → Prop, (∀ H', Nx H' → ∃ m', m' < m ∧ W (i + 1) m' H') ∧ ∀ x H', (Itr 0 n).yld i H x H' → gName j x (wipe σ [j]) H' fun σ2 H2 => wipe σ2 [j] = wipe σ [j] ∧ tYes σ2 H2 fun b H3 =>
        if b = true then te σ2 H3 fun y H4 => ∃ acc, H4 D = some (.lst acc) ∧ acc.length < sizeLine ∧ Nx (upd H4 D (.lst (acc ++ [y]))) else Nx H3) := by
  have nD : ¬ dl d l D := hI.free hD
  refine lcR (dl d l) (fun H => DealAt H d l) (fun i y _ => ∃ z : Int, y = V.int z ∧ φ i z) hD nD hn hI (fun H o x => x.upd nD) (fun _ _ _ _ _ x => x) (fun i H acc hi x k1 _ Q kQ => ?_) (fun ys H' hl hf hD' x k1 => ?_)
  · exact hs i H hi x k1.sb Q fun z H4 x4 k4 hz => kQ _ _ x4 k4.kp ⟨z, rfl, hz⟩
  · obtain ⟨zs, rfl, hz⟩ := collect (g := V.int) hf
    exact hd zs H' (by rw [← hl, List.length_map]) hz hD' x k1.sb
end
theorem flat_rep {α : Type} (x : α) : ∀ k : Nat, (List.replicate k [x]).flatten = List.replicate k x
  | 0 => rfl
  | k + 1 => by
    show [x] ++ (List.replicate k [x]).flatten = _
    rw [flat_rep x k] <;> rfl
theorem all_of_get {ns : List Int} {φ : Int → Prop} (h : ∀ (i : Nat) z, ns[i]? = some z → φ z) : ∀ z ∈ ns, φ z := fun z hz => by
  obtain ⟨i, hi⟩ := List.getElem?_of_mem hz
  exact h i z hi
section
variable {P : Program} {w : World} {K : PySem.W.Frag} {mg : Str → Option Value} {base : Heap}
theorem ok_column {f fa fm : Addr} {fd fda fdm : FuncData} (A0 : Df K mg "_law_column" s_law_column f fd P_law_column) (d_law_any : Df K mg "_law_any" s_law_any fa fda P_law_any) (d_law_mixed : Df K mg "_law_mixed" s_law_mixed fm fdm P_law_mixed) (T : Txt mg) : FnOk P w K mg base CX0 3 f fd P_law_column spColumn := by
  have G_law_any : FnOk P w K mg base CX0 1 fa fda P_law_any spAny := ok_any d_law_any T
  have G_law_mixed : FnOk P w K mg base CX0 2 fm fdm P_law_mixed (spMixed K) := ok_mixed d_law_mixed d_law_any T
  refine A0.F.ok sc_law_column (fun vs H Q E h => ?_) (fun cdv A outer s H vs Q E hr h => ?_)
  · obtain ⟨d, l, form, n, rfl, _⟩ := h
    rfl
  · obtain ⟨d, l, form, n, rfl, n0, n1, D, k⟩ := h
    refine ⟨_, (pss_cons (ps_set (i := 3) sc_law_column.nd rfl (Or.inr rfl) (pe_call G_law_any (hr.mono (by decide)) rfl d_law_any.g d_law_any.F.kp d_law_any.b .nil pass0 (pa_cons (pv 0) (pa_cons (pv 2) pa_nil))))
    (pss_cons (ps_if (pt_cmpR op_eq (pv 1) pe_int (nomark _)) (pss_one (ps_ret (pe_lc (own := [("state", 4)]) (g := gName 4) (tt := tYes) rfl sc_law_column.nd (pi_range1 rfl T.range (pa_cons (pv 2) pa_nil)) (blkOk_by (N := N_law_column) (sc := defScope s_law_column) (by decide +kernel)) (fun _ _ _ _ _ => (pg_name (i := 4) sc_law_column.nd rfl (Or.inl rfl))) (fun _ _ _ _ _ => pts_nil) (fun _ _ _ _ _ => (pe_op op_mod (pe_callTy call_int1 (by rfl) T.int (by decide +kernel) (pa_cons (pe_op op_add (pv 4) (pv 3)) pa_nil)) (pv 2)))))) pss_nil)
    (pss_cons (ps_if (pt_cmpR op_eq (pv 1) pe_int (nomark _)) (pss_one (ps_ret (pe_op op_rep (pe_lst (pa_cons (pv 3) pa_nil)) (pv 2)))) pss_nil)
    (pss_cons (ps_if (pt_cmpR op_eq (pv 1) pe_int (nomark _)) (pss_one (ps_ret (pe_lc (own := [("state", 4)]) (g := gName 4) (tt := tYes) rfl sc_law_column.nd (pi_range1 rfl T.range (pa_cons (pv 2) pa_nil)) (blkOk_by (N := N_law_column) (sc := defScope s_law_column) (by decide +kernel)) (fun _ _ _ _ _ => (pg_name (i := 4) sc_law_column.nd rfl (Or.inl rfl))) (fun _ _ _ _ _ => pts_nil) (fun _ _ _ _ _ => (pe_ifExp (pt_cmpR op_eq (pv 4) pe_int (nomark _)) (pv 3) (pv 4)))))) pss_nil)
    (pss_cons (ps_if (pt_cmpR op_eq (pv 1) pe_int (nomark _)) (pss_one (ps_ret (pe_lc (own := [("state", 4)]) (g := gName 4) (tt := tYes) rfl sc_law_column.nd (pi_range1 rfl T.range (pa_cons (pv 2) pa_nil)) (blkOk_by (N := N_law_column) (sc := defScope s_law_column) (by decide +kernel)) (fun _ _ _ _ _ => (pg_name (i := 4) sc_law_column.nd rfl (Or.inl rfl))) (fun _ _ _ _ _ => pts_nil) (fun _ _ _ _ _ => (pe_callB (call_max2 rfl) (by rfl) T.max (by decide +kernel) (pa_cons pe_int (pa_cons (pe_callB (call_min2 rfl) (by rfl) T.min (by decide +kernel) (pa_cons (pe_op op_sub (pv 2) pe_int) (pa_cons (pe_op op_sub (pe_op op_add (pv 4) (pv 3)) pe_int) pa_nil))) pa_nil))))))) pss_nil)
    (pss_cons (ps_if (pt_cmpR op_eq (pv 1) pe_int (nomark _)) (pss_one (ps_ret (pe_call G_law_mixed (hr.mono (by decide)) rfl d_law_mixed.g d_law_mixed.F.kp d_law_mixed.b .nil pass0 (pa_cons (pv 0) (pa_cons (pe_listRg rfl (by rfl) T.list (prg_1 (by rfl) T.range (pv 2))) pa_nil))))) pss_nil)
    (pss_cons (ps_if (pt_cmpR op_eq (pv 1) pe_int (nomark _)) (pss_one (ps_ret (pe_lc (own := [("state", 4)]) (g := gName 4) (tt := tYes) rfl sc_law_column.nd (pi_range1 rfl T.range (pa_cons (pv 2) pa_nil)) (blkOk_by (N := N_law_column) (sc := defScope s_law_column) (by decide +kernel)) (fun _ _ _ _ _ => (pg_name (i := 4) sc_law_column.nd rfl (Or.inl rfl))) (fun _ _ _ _ _ => pts_nil) (fun _ _ _ _ _ => (pe_callB (call_max2 rfl) (by rfl) T.max (by decide +kernel) (pa_cons (pv 4) (pa_cons (pv 3) pa_nil))))))) pss_nil)
    (pss_cons (ps_if (pt_cmpR op_eq (pv 1) pe_int (nomark _)) (pss_cons (ps_set (i := 5) sc_law_column.nd rfl (Or.inr rfl) (pe_callB (call_max2 rfl) (by rfl) T.max (by decide +kernel) (pa_cons pe_int (pa_cons (pe_op op_fdiv (pv 2) pe_int) pa_nil))))
      (pss_one (ps_ret (pe_lc (own := [("state", 4)]) (g := gName 4) (tt := tYes) rfl sc_law_column.nd (pi_range1 rfl T.range (pa_cons (pv 2) pa_nil)) (blkOk_by (N := N_law_column) (sc := defScope s_law_column) (by decide +kernel)) (fun _ _ _ _ _ => (pg_name (i := 4) sc_law_column.nd rfl (Or.inl rfl))) (fun _ _ _ _ _ => pts_nil) (fun _ _ _ _ _ => (pe_op op_add (pe_op op_mod (pe_callTy call_int1 (by rfl) T.int (by decide +kernel) (pa_cons (pe_op op_add (pv 4) (pv 3)) pa_nil)) (pv 5)) (pe_ifExp (PW.pt (pw_and (pt_cmpR op_ge (pv 4) (pv 5) (nomark _)) (pw_and1 (pt_cmpR op_le (pe_op op_mul pe_int (pv 5)) (pv 2) (nomark _))))) (pv 5) pe_int))))))) pss_nil)
    (pss_one (ps_ret (pe_lc (own := [("state", 4)]) (g := gName 4) (tt := tYes) rfl sc_law_column.nd (pi_range1 rfl T.range (pa_cons (pv 2) pa_nil)) (blkOk_by (N := N_law_column) (sc := defScope s_law_column) (by decide +kernel)) (fun _ _ _ _ _ => (pg_name (i := 4) sc_law_column.nd rfl (Or.inl rfl))) (fun _ _ _ _ _ => pts_nil) (fun _ _ _ _ _ => (pe_call G_law_any (hr.mono (by decide)) rfl d_law_any.g d_law_any.F.kp d_law_any.b .nil pass0 (pa_cons (pv 0) (pa_cons (pv 2) pa_nil))))))))))))))), ?_⟩
    refine ⟨_, rfl, _, rfl, d, l, n, rfl, n0, by omega, D, fun H1 to D1 S1 to0 to1 => ?_⟩
    have back : ∀ (H' : Hp) (p : Addr) (ns : List Int), H1 p = none → DealAt H' d l → SB d l H1 H' → H' p = some (.lst (ns.map V.int)) → ns.length = n.toNat → (∀ z ∈ ns, 0 ≤ z ∧ z < n) → Q (.ref p) H' := fun H' p ns h1 h2 h3 h4 h5 h6 =>
      k H' p ns h2 (S1.trans h3) (S1.kp.free (D1.free h1) h1) h4 (by omega) h6
    refine ⟨_, rfl, rfl, _, rfl, ite2 (fun _ => ?_) (fun _ => ?_)⟩
    · refine ⟨_, rfl, n, rfl, by omega, by omega, fun p hp => lcI (fun _ z => 0 ≤ z ∧ z < n) hp D1 (by omega) (fun i H hi x _ Q kQ => ?_) (fun ns H' hl hz hD x k1 => back H' p ns hp x k1 hD hl (all_of_get hz))⟩
      exact ⟨_, rfl, _, rfl, _, _, rfl, rfl, .inl ⟨_, rfl, _, rfl, _, _, rfl, rfl, n0, kQ _ _ x (SB.refl _ _ _) ⟨Int.emod_nonneg _ (by omega), Int.emod_lt_of_pos _ n0⟩⟩⟩
    refine ⟨_, rfl, rfl, _, rfl, ite2 (fun _ => ?_) (fun _ => ?_)⟩
    · refine ⟨_, rfl, by show 1 ≤ sizeLine; decide, fun q hq => ⟨_, rfl, q, n, _, rfl, rfl, upd_same, by omega, by omega, Nat.le_trans (show 1 * n.toNat ≤ 1000 by omega) (by decide), fun p hp => ?_⟩⟩
      rw [flat_rep]
      have hp1 : H1 p = none := (KP.new (S := dl d l) hq).free ((D1.new hq).free hp) hp
      refine back _ p (List.replicate n.toNat to) hp1 ((D1.new hq).new hp) ((SB.new hq).trans (SB.new hp)) (by rw [upd_same, List.map_replicate]) (by simp) fun z hz => ?_
      rw [List.eq_of_mem_replicate hz]
      exact ⟨to0, to1⟩
    refine ⟨_, rfl, rfl, _, rfl, ite2 (fun _ => ?_) (fun _ => ?_)⟩
    · refine ⟨_, rfl, n, rfl, by omega, by omega, fun p hp => lcI (fun _ z => 0 ≤ z ∧ z < n) hp D1 (by omega) (fun i H hi x _ Q kQ => ?_) (fun ns H' hl hz hD x k1 => back H' p ns hp x k1 hD hl (all_of_get hz))⟩
      refine ⟨_, rfl, rfl, _, rfl, ite2 (fun _ => ?_) (fun _ => ?_)⟩
      · exact ⟨_, rfl, kQ _ _ x (SB.refl _ _ _) ⟨to0, to1⟩⟩
      · exact ⟨_, rfl, kQ _ _ x (SB.refl _ _ _) ⟨by omega, by omega⟩⟩
    refine ⟨_, rfl, rfl, _, rfl, ite2 (fun _ => ?_) (fun _ => ?_)⟩
    · refine ⟨_, rfl, n, rfl, by omega, by omega, fun p hp => lcI (fun _ z => 0 ≤ z ∧ z < n) hp D1 (by omega) (fun i H hi x _ Q kQ => ?_) (fun ns H' hl hz hD x k1 => back H' p ns hp x k1 hD hl (all_of_get hz))⟩
      refine ⟨_, rfl, _, _, rfl, rfl, _, rfl, _, rfl, _, _, rfl, rfl, _, _, rfl, rfl, _, _, rfl, _, _, rfl, ?_⟩
      refine kQ _ _ x (SB.refl _ _ _) ⟨?_, ?_⟩
      · split <;> omega
      · split
        · split <;> omega
        · omega
    refine ⟨_, rfl, rfl, _, rfl, ite2 (fun _ => ?_) (fun _ => ?_)⟩
    · refine ⟨_, rfl, _, rfl, n, rfl, RgOk.of_le (by decide) (by omega) (by decide) (by omega), fun q hq => ?_⟩
      refine ⟨d, l, q, (List.range n.toNat).map fun i => ((i : Nat) : Int), rfl, SqL.of ?_, by simp; omega, D1.new hq, fun H' p ms x k1 h1 h2 h3 => ?_⟩
      · rw [upd_same]
        unfold rgV
        rw [List.map_map]
        simp
      · refine back H' p ms (KP.free (S := dl d l) (KP.new hq) ((D1.new hq).free h1) h1) x ((SB.new hq).trans k1) h2 ?_ fun z hz => ?_
        · rw [h3.length_eq]
          simp
        · obtain ⟨i, hi, rfl⟩ := List.mem_map.mp (h3.mem_iff.mp hz)
          have := List.mem_range.mp hi
          omega
    refine ⟨_, rfl, rfl, _, rfl, ite2 (fun _ => ?_) (fun _ => ?_)⟩
    · refine ⟨_, rfl, n, rfl, by omega, by omega, fun p hp => lcI (fun _ z => 0 ≤ z ∧ z < n) hp D1 (by omega) (fun i H hi x _ Q kQ => ?_) (fun ns H' hl hz hD x k1 => back H' p ns hp x k1 hD hl (all_of_get hz))⟩
      refine ⟨_, rfl, _, rfl, _, _, rfl, kQ _ _ x (SB.refl _ _ _) ⟨?_, ?_⟩⟩
      · split <;> omega
      · split <;> omega
    refine ⟨_, rfl, rfl, _, rfl, ite2 (fun _ => ?_) (fun _ => ?_)⟩
    · refine ⟨_, rfl, _, _, rfl, rfl, ⟨by decide, by decide⟩, _, _, rfl, ?_⟩
      refine ⟨_, rfl, n, rfl, by omega, by omega, fun p hp => lcI (fun _ z => 0 ≤ z ∧ z < n) hp D1 (by omega) (fun i H hi x _ Q kQ => ?_) (fun ns H' hl hz hD x k1 => back H' p ns hp x k1 hD hl (all_of_get hz))⟩
      obtain ⟨half, eh, h0, h1, h2⟩ : ∃ half : Int, half = (if n / 2 > 1 then n / 2 else 1) ∧ 0 < half ∧ half ≤ n ∧ True := ⟨_, rfl, by split <;> omega, by split <;> omega, trivial⟩
      have r0 := Int.emod_nonneg (0 + (i : Int) + to) (show half ≠ 0 by omega)
      have r1 := Int.emod_lt_of_pos (0 + (i : Int) + to) h0
      have hb : ∀ y : Int, (y = half ∧ 2 * half ≤ n) ∨ y = 0 → 0 ≤ (0 + (i : Int) + to) % half + y ∧ (0 + (i : Int) + to) % half + y < n := fun y hy => by
        rcases hy with ⟨e, q⟩ | e <;> omega
      refine ⟨_, rfl, _, rfl, _, _, rfl, rfl, .inl ⟨_, rfl, _, rfl, _, _, rfl, rfl, ?_, ?_⟩⟩
      · rw [← eh]
        exact h0
      · refine ⟨_, rfl, _, rfl, _, _, rfl, rfl, _, rfl, ite2 (fun h3 => ?_) (fun _ => ?_)⟩
        · refine ⟨_, rfl, _, _, rfl, rfl, .inl ⟨by decide, by decide⟩, _, rfl, _, _, rfl, rfl, _, rfl, ite2 (fun h4 => ?_) (fun _ => ?_)⟩
          · have h4' := of_decide_eq_true h4
            rw [← eh] at h4'
            refine ⟨_, rfl, _, _, rfl, rfl, kQ _ _ x (SB.refl _ _ _) ?_⟩
            rw [← eh]
            exact hb half (.inl ⟨rfl, h4'⟩)
          · refine ⟨_, _, rfl, rfl, kQ _ _ x (SB.refl _ _ _) ?_⟩
            rw [← eh]
            exact hb 0 (.inr rfl)
        · refine iteF ⟨_, _, rfl, rfl, kQ _ _ x (SB.refl _ _ _) ?_⟩
          rw [← eh]
          exact hb 0 (.inr rfl)
    · refine ⟨_, rfl, n, rfl, by omega, by omega, fun p hp => lcI (fun _ z => 0 ≤ z ∧ z < n) hp D1 (by omega) (fun i H hi x _ Q kQ => ?_) (fun ns H' hl hz hD x k1 => back H' p ns hp x k1 hD hl (all_of_get hz))⟩
      exact ⟨_, rfl, _, rfl, d, l, n, rfl, n0, by omega, x, fun H4 r x4 k4 r0 r1 => kQ _ _ x4 k4 ⟨r0, r1⟩⟩
end
end Lk

set_option Elab.async false
set_option maxRecDepth 100000
set_option maxHeartbeats 1000000
namespace Lk
open PySem L2
abbrev s_law_machine : Stmt := top 31
abbrev N_law_machine : List Str := ["deal", "most", "form", "commands", "one", "other", "s", "many", "columns", "command", "kind"]
abbrev P_law_machine : List Str := ["deal", "most"]
theorem sc_law_machine : FnScope N_law_machine P_law_machine (defScope s_law_machine) := ⟨rfl, rfl, rfl, by decide +kernel, rfl, by decide +kernel, by decide +kernel⟩
/-- as a machine's steps: rows of A states each -/
structure RowsOk (A : Nat) (ts : List (Addr × List Int)) : Prop where
  pos : 0 < ts.length
  row : ∀ t ∈ ts, t.2.length = A ∧ ∀ z ∈ t.2, 0 ≤ z ∧ z < (ts.length : Int)
/-- a drawn machine: (commands, steps) -/
def spMachine : Sp := fun vs H Q _ => ∃ (d l : Addr) (most : Int), vs = [.ref d, .int most] ∧ 0 < most ∧ most ≤ 100 ∧ DealAt H d l ∧
  ∀ (H' : Hp) (t p : Addr) (A : Nat) (ts : List (Addr × List Int)), DealAt H' d l → SB d l H H' → H t = none → H' t = some (.tup [.int A, .ref p]) → NewG H p ts → GridAt H' p ts → 0 < A → A ≤ 3 → (ts.length : Int) ≤ most → RowsOk A ts → Q (.ref t) H'
theorem GridAt.snoc {H : Hp} {c p : Addr} {ts : List (Addr × List Int)} {ns : List Int} (x : GridAt H c ts) (hp : H p = some (.lst (ns.map V.int))) (n : p ≠ c) (hr : ∀ t ∈ ts, t.1 ≠ c) :
    GridAt (upd H c (.lst ((ts.map fun t => V.ref t.1) ++ [.ref p]))) c (ts ++ [(p, ns)]) := by
  refine ⟨by rw [upd_same, List.map_append] <;> rfl, fun t ht => ?_⟩
  rcases List.mem_append.mp ht with h | h
  · rw [upd_ne (hr t h)]
    exact x.row t h
  · rw [List.mem_singleton.mp h, upd_ne n]
    exact hp
theorem GridAt.new {H : Hp} {p q : Addr} {o : HO} {ts : List (Addr × List Int)} (x : GridAt H p ts) (h : H q = none) : GridAt (upd H q o) p ts :=
  ⟨by rw [upd_ne (ne_of_none x.top h)]; exact x.top, fun t ht => by rw [upd_ne (ne_of_none (x.row t ht) h)]; exact x.row t ht⟩
theorem NewG.back {S : Addr → Prop} {H H1 : Hp} {p : Addr} {ts : List (Addr × List Int)} (x : NewG H1 p ts) (k : KP S H H1) (n : ¬ S p) (hn : ∀ t ∈ ts, ¬ S t.1) : NewG H p ts :=
  ⟨k.free n x.top, fun t ht => k.free (hn t ht) (x.row t ht)⟩
/-- new behind what has a deal: new ahead of it -/
theorem NewG.deal {H H1 : Hp} {d l p : Addr} {ts : List (Addr × List Int)} (x : NewG H1 p ts) (k : SB d l H H1) (D : DealAt H1 d l) : NewG H p ts :=
  x.back k.kp (D.free x.top) fun t ht => D.free (x.row t ht)
theorem nk {H : Hp} {a p : Addr} {o u : HO} (h : H a = some o) (hp : H p = none) : upd H p u a = some o := (upd_ne (ne_of_none h hp)).trans h
theorem ff {H : Hp} {p q : Addr} {u : HO} (hp : H p = none) (hq : upd H p u q = none) : H q = none := (KP.new (S := fun _ => False) hp).free id hq
theorem two_ways {c : Prop} [Decidable c] {A X B : Prop} (hB : B) (h : c → B → X) : if c then X else (if false = true then A else B) := by
  by_cases hc : c
  · rw [if_pos hc]
    exact h hc hB
  · rw [if_neg hc]
    exact iteF hB
section
variable {K : PySem.W.Frag} {j : Nat} {te : TE} {σ : St} {H1 : Hp} {D : Addr} {Qd : Hp → Prop} {d l : Addr}
def fG (φ : Nat → List Int → Prop) (H1 : Hp) (D : Addr) (i : Nat) (y : V) (H : Hp) : Prop := ∃ t : Addr × List Int, y = V.ref t.1 ∧ H1 t.1 = none ∧ t.1 ≠ D ∧ H t.1 = some (.lst (t.2.map V.int)) ∧ φ i t.2
theorem fG_end {φ : Nat → List Int → Prop} {ys : List V} {H' : Hp} (hD : H1 D = none) (hf : ∀ i y, ys[i]? = some y → fG φ H1 D i y H') (hD' : H' D = some (.lst ys)) :
    ∃ ts : List (Addr × List Int), ts.length = ys.length ∧ NewG H1 D ts ∧ GridAt H' D ts ∧ ∀ i t, ts[i]? = some t → φ i t.2 := by
  obtain ⟨ts, rfl, ht⟩ := collect (g := fun t : Addr × List Int => V.ref t.1) hf
  have hm : ∀ t ∈ ts, H1 t.1 = none ∧ H' t.1 = some (.lst (t.2.map V.int)) := fun t h => by
    obtain ⟨i, hi⟩ := List.getElem?_of_mem h
    exact ⟨(ht i t hi).1, (ht i t hi).2.2.1⟩
  exact ⟨ts, by rw [List.length_map], ⟨hD, fun t h => (hm t h).1⟩, ⟨hD', fun t h => (hm t h).2⟩, fun i t h => (ht i t h).2.2.2⟩
/-- rows made over a range -/
theorem lcGR {n : Nat} (φ : Nat → List Int → Prop) (hD : H1 D = none) (hI : DealAt H1 d l) (hn : n ≤ 1000000)
    (hs : ∀ i H, i < n → DealAt H d l → SB d l H1 H → ∀ Q : VK, (∀ a r H4, DealAt H4 d l → SB d l H H4 → H a = none → H4 a = some (.lst (r.map V.int)) → φ i r → Q (.ref a) H4) → te ((wipe σ [j]).set j (some (.int (0 + i)))) H Q)
    (hd : ∀ ts H', ts.length = n → (∀ (i : Nat) t, ts[i]? = some t → φ i t.2) → NewG H1 D ts → GridAt H' D ts → DealAt H' d l → SB d l H1 H' → Qd H') :
    ∃ W : Nat → Nat → Hp → Prop, (∃ m, W 0 m (upd H1 D (.lst []))) ∧ ∀ i m H, W i m H →
      ((Itr 0 n).stop i H ∧ Qd H) ∨ ((Itr 0 n).go i H ∧ ∃ Nx : Hp → Prop, (∀ H', Nx H' → ∃ m', m' < m ∧ W (i + 1) m' H') ∧ ∀ x H', (Itr 0 n).yld i H x H' → gName j x (wipe σ [j]) H' fun σ2 H2 => wipe σ2 [j] = wipe σ [j] ∧ tYes σ2 H2 fun b H3 =>
        if b = true then te σ2 H3 fun y H4 => ∃ acc, H4 D = some (.lst acc) ∧ acc.length < sizeLine ∧ Nx (upd H4 D (.lst (acc ++ [y]))) else Nx H3) := by
  have nD : ¬ dl d l D := hI.free hD
  refine lcR (dl d l) (fun H => DealAt H d l) (fG φ H1 D) hD nD hn hI (fun H o x => x.upd nD) (fun i y H H' k ⟨t, e, h1, h2, h3, h4⟩ => ⟨t, e, h1, h2, k.get (fun q => q.elim (hI.free h1) h2) h3, h4⟩) (fun i H acc hi x k1 hDa Q kQ => ?_) (fun ys H' hl hf hD' x k1 => ?_)
  · refine hs i H hi x k1.sb Q fun a r H4 x4 k4 ha ha4 hr => kQ _ _ x4 k4.kp ⟨(a, r), rfl, k1.free (x.free ha) ha, fun e => ?_, ha4, hr⟩
    have e' : a = D := e
    rw [e', hDa] at ha
    cases ha
  · obtain ⟨ts, h1, h2, h3, h4⟩ := fG_end hD hf hD'
    exact hd ts H' (h1.trans hl) h4 h2 h3 x k1.sb
/-- rows made over a list -/
theorem lcGL {a : Addr} {xs : List V} (φ : Nat → List Int → Prop) (hD : H1 D = none) (hI : DealAt H1 d l) (hn : xs.length ≤ 1000000) (ha : ∀ H, SB d l H1 H → SqL K H a xs)
    (hs : ∀ i x H, xs[i]? = some x → DealAt H d l → SB d l H1 H → ∀ Q : VK, (∀ a r H4, DealAt H4 d l → SB d l H H4 → H a = none → H4 a = some (.lst (r.map V.int)) → φ i r → Q (.ref a) H4) → te ((wipe σ [j]).set j (some x)) H Q)
    (hd : ∀ ts H', ts.length = xs.length → (∀ (i : Nat) t, ts[i]? = some t → φ i t.2) → NewG H1 D ts → GridAt H' D ts → DealAt H' d l → SB d l H1 H' → Qd H') :
    ∃ W : Nat → Nat → Hp → Prop, (∃ m, W 0 m (upd H1 D (.lst []))) ∧ ∀ i m H, W i m H →
      ((Itl K a).stop i H ∧ Qd H) ∨ ((Itl K a).go i H ∧ ∃ Nx : Hp → Prop, (∀ H', Nx H' → ∃ m', m' < m ∧ W (i + 1) m' H') ∧ ∀ x H', (Itl K a).yld i H x H' → gName j x (wipe σ [j]) H' fun σ2 H2 => wipe σ2 [j] = wipe σ [j] ∧ tYes σ2 H2 fun b H3 =>
        if b = true then te σ2 H3 fun y H4 => ∃ acc, H4 D = some (.lst acc) ∧ acc.length < sizeLine ∧ Nx (upd H4 D (.lst (acc ++ [y]))) else Nx H3) := by
  have nD : ¬ dl d l D := hI.free hD
  refine lcL (xs := xs) (dl d l) (fun H => DealAt H d l) (fG φ H1 D) hD nD hn hI (fun H o x => x.upd nD) (fun i y H H' k ⟨t, e, h1, h2, h3, h4⟩ => ⟨t, e, h1, h2, k.get (fun q => q.elim (hI.free h1) h2) h3, h4⟩) (fun H k => ha H k.sb) (fun i x0 H acc hi x k1 hDa Q kQ => ?_) (fun ys H' hl hf hD' x k1 => ?_)
  · refine hs i x0 H hi x k1.sb Q fun b r H4 x4 k4 hb hb4 hr => kQ _ _ x4 k4.kp ⟨(b, r), rfl, k1.free (x.free hb) hb, fun e => ?_, hb4, hr⟩
    have e' : b = D := e
    rw [e', hDa] at hb
    cases hb
  · obtain ⟨ts, h1, h2, h3, h4⟩ := fG_end hD hf hD'
    exact hd ts H' (h1.trans hl) h4 h2 h3 x k1.sb
end
section
variable {P : Program} {w : World} {K : PySem.W.Frag} {mg : Str → Option Value} {base : Heap}
theorem ok_machine {f fa fo fc fm fk : Addr} {fd fda fdo fdc fdm fdk : FuncData} (A0 : Df K mg "_law_machine" s_law_machine f fd P_law_machine) (d_law_any : Df K mg "_law_any" s_law_any fa fda P_law_any) (d_law_of : Df K mg "_law_of" s_law_of fo fdo P_law_of) (d_law_mixed : Df K mg "_law_mixed" s_law_mixed fm fdm P_law_mixed)
    (d_law_columns : Df K mg "_law_columns" s_law_columns fc fdc P_law_columns) (d_law_column : Df K mg "_law_column" s_law_column fk fdk P_law_column) (T : Txt mg) : FnOk P w K mg base CX0 4 f fd P_law_machine spMachine := by
  have G_law_any : FnOk P w K mg base CX0 1 fa fda P_law_any spAny := ok_any d_law_any T
  have G_law_of : FnOk P w K mg base CX0 2 fo fdo P_law_of spOf := ok_of d_law_of d_law_any T
  have G_law_columns : FnOk P w K mg base CX0 1 fc fdc P_law_columns spColumns := ok_columns d_law_columns T
  have G_law_column : FnOk P w K mg base CX0 3 fk fdk P_law_column spColumn := ok_column d_law_column d_law_any d_law_mixed T
  refine A0.F.ok sc_law_machine (fun vs H Q E h => ?_) (fun cdv A outer s H vs Q E hr h => ?_)
  · obtain ⟨d, l, most, rfl, _⟩ := h
    rfl
  · obtain ⟨d, l, most, rfl, m0, m1, D, k⟩ := h
    refine ⟨_, (pss_cons (ps_par (i := 2) (j := 3) rfl sc_law_machine.nd rfl rfl (by decide) rfl rfl (pa_cons (pe_call G_law_any (hr.mono (by decide)) rfl d_law_any.g d_law_any.F.kp d_law_any.b .nil pass0 (pa_cons (pv 0) (pa_cons pe_int pa_nil))) (pa_cons (pe_call G_law_of (hr.mono (by decide)) rfl d_law_of.g d_law_of.F.kp d_law_of.b .nil pass0 (pa_cons (pv 0) (pa_cons (pe_lst (pa_cons pe_int (pa_cons pe_int (pa_cons pe_int (pa_cons pe_int (pa_cons pe_int pa_nil)))))) pa_nil))) pa_nil)) rfl)
    (pss_cons (ps_if (PW.pt (pw_and (pt_cmpR op_eq (pv 2) pe_int (nomark _)) (pw_and1 (pt_cmpR op_gt (pv 1) pe_int (nomark _))))) (pss_one (ps_ret (pe_tup (pa_cons pe_int (pa_cons (pe_lst (pa_cons (pe_lst (pa_cons pe_int (pa_cons pe_int pa_nil))) (pa_cons (pe_lst (pa_cons pe_int (pa_cons pe_int pa_nil))) (pa_cons (pe_lst (pa_cons pe_int (pa_cons pe_int pa_nil))) (pa_cons (pe_lst (pa_cons pe_int (pa_cons pe_int pa_nil))) pa_nil))))) pa_nil))))) pss_nil)
    (pss_cons (ps_if (PW.pt (pw_and (pt_cmpR op_eq (pv 2) pe_int (nomark _)) (pw_and1 (pt_cmpR op_gt (pv 1) pe_int (nomark _))))) (pss_cons (ps_asg (pe_tup (pa_cons (pe_call G_law_any (hr.mono (by decide)) rfl d_law_any.g d_law_any.F.kp d_law_any.b .nil pass0 (pa_cons (pv 0) (pa_cons pe_int pa_nil))) (pa_cons (pe_call G_law_of (hr.mono (by decide)) rfl d_law_of.g d_law_of.F.kp d_law_of.b .nil pass0 (pa_cons (pv 0) (pa_cons (pe_lst (pa_cons pe_int (pa_cons pe_int pa_nil))) pa_nil))) pa_nil))) (pg_tup rfl (pgs_cons (pg_name (i := 4) sc_law_machine.nd rfl (Or.inr rfl)) (pgs_cons (pg_name (i := 5) sc_law_machine.nd rfl (Or.inr rfl)) pgs_nil))))
      (pss_one (ps_ret (pe_tup (pa_cons pe_int (pa_cons (pe_lc (own := [("s", 6)]) (g := gName 6) (tt := tYes) rfl sc_law_machine.nd (pi_range1 rfl T.range (pa_cons pe_int pa_nil)) (blkOk_by (N := N_law_machine) (sc := defScope s_law_machine) (by decide +kernel)) (fun _ _ _ _ _ => (pg_name (i := 6) sc_law_machine.nd rfl (Or.inl rfl))) (fun _ _ _ _ _ => pts_nil) (fun _ _ _ _ _ => (pe_lst (pa_cons (pe_op op_add (pe_op op_mul pe_int (pe_op op_fdiv (pv 6) pe_int)) (pv 4)) (pa_cons (pe_ifExp (pt_cmpR op_eq (pe_op op_mod (pv 6) pe_int) pe_int (nomark _)) (pe_op op_mod (pe_callTy call_int1 (by rfl) T.int (by decide +kernel) (pa_cons (pe_op op_add (pv 6) (pv 5)) pa_nil)) pe_int) (pe_op op_mod (pe_callTy call_int1 (by rfl) T.int (by decide +kernel) (pa_cons (pe_op op_add (pv 6) pe_int) pa_nil)) pe_int)) pa_nil))))) pa_nil)))))) pss_nil)
    (pss_cons (ps_par (i := 7) (j := 8) rfl sc_law_machine.nd rfl rfl (by decide) rfl rfl (pa_cons (pe_op op_add pe_int (pe_call G_law_any (hr.mono (by decide)) rfl d_law_any.g d_law_any.F.kp d_law_any.b .nil pass0 (pa_cons (pv 0) (pa_cons (pv 1) pa_nil)))) (pa_cons (pe_lst pa_nil) pa_nil)) rfl)
    (pss_cons (ps_for PassesOwn.never rfl (pi_range1 rfl T.range (pa_cons (pv 3) pa_nil)) (pg_name (i := 9) sc_law_machine.nd rfl (Or.inl rfl))
      (pss_cons (ps_set (i := 10) sc_law_machine.nd rfl (Or.inl rfl) (pe_ifExp (pt_cmpR op_gt (pv 2) pe_int (nomark _)) (pe_call G_law_any (hr.mono (by decide)) rfl d_law_any.g d_law_any.F.kp d_law_any.b .nil pass0 (pa_cons (pv 0) (pa_cons pe_int pa_nil))) (pv 2)))
      (pss_one (ps_expr (pe_bm PySem.F.plainAttrs_list PySem.F.slot_list_append PySem.F.type_list_append mt_append (pv 8) (pa_cons (pe_call G_law_column (hr.mono (by decide)) rfl d_law_column.g d_law_column.F.kp d_law_column.b .nil pass0 (pa_cons (pv 0) (pa_cons (pv 10) (pa_cons (pv 7) pa_nil)))) pa_nil))))))
    (pss_one (ps_ret (pe_tup (pa_cons (pv 3) (pa_cons (pe_call G_law_columns (hr.mono (by decide)) rfl d_law_columns.g d_law_columns.F.kp d_law_columns.b .nil pass0 (pa_cons (pv 8) pa_nil)) pa_nil)))))))))), ?_⟩
    refine ⟨_, rfl, d, l, _, rfl, by decide, by decide, D, fun H1 form D1 S1 f0 f1 => ?_⟩
    refine ⟨_, rfl, by show 5 ≤ sizeLine; decide, fun q hq => ⟨d, l, q, _, rfl, upd_same, D1.free hq, by show 0 < 5; decide, by show 5 ≤ 1000; decide, D1.new hq, fun H2 i cm D2 S2 hi => ?_⟩⟩
    obtain ⟨A, rfl, A0, A3⟩ : ∃ A : Nat, cm = V.int A ∧ 0 < A ∧ A ≤ 3 := by
      match i, hi with
      | 0, hi => exact ⟨1, (Option.some.inj hi).symm, by decide, by decide⟩
      | 1, hi => exact ⟨2, (Option.some.inj hi).symm, by decide, by decide⟩
      | 2, hi => exact ⟨2, (Option.some.inj hi).symm, by decide, by decide⟩
      | 3, hi => exact ⟨2, (Option.some.inj hi).symm, by decide, by decide⟩
      | 4, hi => exact ⟨3, (Option.some.inj hi).symm, by decide, by decide⟩
      | n + 5, hi => cases hi
    have S02 : SB d l H H2 := (S1.trans (SB.new hq)).trans S2
    have fin : ∀ (H' : Hp) (t p : Addr) (A : Nat) (ts : List (Addr × List Int)), DealAt H' d l → SB d l H2 H' → H2 t = none → H' t = some (.tup [.int A, .ref p]) → NewG H2 p ts → GridAt H' p ts → 0 < A → A ≤ 3 → (ts.length : Int) ≤ most → RowsOk A ts → Q (.ref t) H' :=
      fun H' t p A ts x1 x2 x3 x4 x5 x6 x7 x8 x9 x10 => k H' t p A ts x1 (S02.trans x2) (S02.kp.free (D2.free x3) x3) x4 (x5.deal S02 D2) x6 x7 x8 x9 x10
    refine ⟨_, _, rfl, ?_⟩
    refine ⟨_, rfl, rfl, _, rfl, two_ways ?_ fun _ rest => ⟨_, rfl, _, _, rfl, rfl, _, rfl, ite2 (fun h3 => ?_) fun _ => rest⟩⟩
    rotate_left
    · -- (2, [[0, 1], [2, 3], [0, 1], [2, 3]])
      have h3' : (3 : Int) < most := of_decide_eq_true h3
      refine ⟨by show 2 ≤ sizeLine; decide, fun a1 e1 => ⟨by show 2 ≤ sizeLine; decide, fun a2 e2 => ⟨by show 2 ≤ sizeLine; decide, fun a3 e3 => ⟨by show 2 ≤ sizeLine; decide, fun a4 e4 => ⟨by show 4 ≤ sizeLine; decide, fun p ep => ⟨by show 2 ≤ sizeLine; decide, fun t et => ?_⟩⟩⟩⟩⟩⟩
      have n2 := ff e1 e2
      have n3 := ff e1 (ff e2 e3)
      have n4 := ff e1 (ff e2 (ff e3 e4))
      have np := ff e1 (ff e2 (ff e3 (ff e4 ep)))
      have nt := ff e1 (ff e2 (ff e3 (ff e4 (ff ep et))))
      refine fin _ t p 2 [(a1, [0, 1]), (a2, [2, 3]), (a3, [0, 1]), (a4, [2, 3])] ((((((D2.new e1).new e2).new e3).new e4).new ep).new et) ((((((SB.new e1).trans (SB.new e2)).trans (SB.new e3)).trans (SB.new e4)).trans (SB.new ep)).trans (SB.new et)) nt upd_same ⟨np, fun u hu => ?_⟩ ⟨nk upd_same et, fun u hu => ?_⟩ (by decide) (by decide) (by show (4 : Int) ≤ most; omega) ⟨by show 0 < 4; decide, fun u hu => ?_⟩
      · simp only [List.mem_cons, List.not_mem_nil, or_false] at hu
        rcases hu with rfl | rfl | rfl | rfl
        · exact e1
        · exact n2
        · exact n3
        · exact n4
      · simp only [List.mem_cons, List.not_mem_nil, or_false] at hu
        rcases hu with rfl | rfl | rfl | rfl
        · exact nk (nk (nk (nk (nk upd_same e2) e3) e4) ep) et
        · exact nk (nk (nk (nk upd_same e3) e4) ep) et
        · exact nk (nk (nk upd_same e4) ep) et
        · exact nk (nk upd_same ep) et
      · simp only [List.mem_cons, List.not_mem_nil, or_false] at hu
        rcases hu with rfl | rfl | rfl | rfl <;> exact ⟨rfl, fun z hz => by simp only [List.mem_cons, List.not_mem_nil, or_false] at hz; rcases hz with rfl | rfl <;> exact ⟨by decide, by show _ < ((4 : Nat) : Int); decide⟩⟩
    refine ⟨_, rfl, rfl, _, rfl, two_ways ?_ fun _ rest => ⟨_, rfl, _, _, rfl, rfl, _, rfl, ite2 (fun h3 => ?_) fun _ => rest⟩⟩
    rotate_left
    · have h3' : (3 : Int) < most := of_decide_eq_true h3
      refine ⟨_, rfl, d, l, _, rfl, by decide, by decide, D2, fun H3 one D3 S3 o0 o1 => ?_⟩
      refine ⟨_, rfl, by show 2 ≤ sizeLine; decide, fun q2 hq2 => ⟨d, l, q2, _, rfl, upd_same, D3.free hq2, by show 0 < 2; decide, by show 2 ≤ 1000; decide, D3.new hq2, fun H4 i2 ov D4 S4 hi2 => ?_⟩⟩
      obtain ⟨other, rfl⟩ : ∃ other : Int, ov = V.int other := by
        match i2, hi2 with
        | 0, hi => exact ⟨1, (Option.some.inj hi).symm⟩
        | 1, hi => exact ⟨3, (Option.some.inj hi).symm⟩
        | n + 2, hi => cases hi
      refine ⟨by show 2 ≤ sizeLine; decide, fun t0 ht0 => ⟨t0, _, rfl, SqT.of upd_same, rfl, _, _, rfl, _, _, rfl, rfl, ?_⟩⟩
      have D5 := D4.new (o := HO.tup [V.int one, V.int other]) ht0
      have S25 : SB d l H2 _ := ((S3.trans (SB.new hq2)).trans S4).trans (SB.new (o := HO.tup [V.int one, V.int other]) ht0)
      refine ⟨_, rfl, by decide, by decide, fun p ep => lcGR (n := 4) (fun _ r => r.length = 2 ∧ ∀ z ∈ r, 0 ≤ z ∧ z < (4 : Int)) ep D5 (by decide) (fun i H6 hi x6 _ Q6 kQ => ?_) (fun ts H' hl hz hN hG x k1 => ?_)⟩
      · have i4 : (0 : Int) + (i : Int) < 4 := by omega
        have fin6 : ∀ z1 z2 : Int, (0 ≤ z1 ∧ z1 < 4) → (0 ≤ z2 ∧ z2 < 4) → ∀ a, H6 a = none → Q6 (.ref a) (upd H6 a (.lst [.int z1, .int z2])) := fun z1 z2 b1 b2 a ha => by
          refine kQ a [z1, z2] _ (x6.new ha) (SB.new ha) ha upd_same ⟨rfl, fun z hz => ?_⟩
          simp only [List.mem_cons, List.not_mem_nil, or_false] at hz
          rcases hz with rfl | rfl
          · exact b1
          · exact b2
        refine ⟨_, rfl, _, _, rfl, rfl, ⟨by decide, by decide⟩, _, _, rfl, rfl, .inl ⟨by decide, by decide⟩, _, rfl, _, _, rfl, rfl, ?_⟩
        refine ⟨_, rfl, _, _, rfl, rfl, (by show (0 : Int) < 2; decide), rfl, _, rfl, ite2 (fun _ => ?_) (fun _ => ?_)⟩
        · exact ⟨_, rfl, _, rfl, _, _, rfl, rfl, .inl ⟨_, rfl, _, _, rfl, rfl, (by show (0 : Int) < 4; decide), by show 2 ≤ sizeLine; decide, fin6 _ _ ⟨by omega, by omega⟩ ⟨Int.emod_nonneg _ (by decide), Int.emod_lt_of_pos _ (by decide)⟩⟩⟩
        · exact ⟨_, rfl, _, _, rfl, rfl, .inl ⟨_, rfl, _, _, rfl, rfl, (by show (0 : Int) < 4; decide), by show 2 ≤ sizeLine; decide, fin6 _ _ ⟨by omega, by omega⟩ ⟨Int.emod_nonneg _ (by decide), Int.emod_lt_of_pos _ (by decide)⟩⟩⟩
      · refine ⟨by show 2 ≤ sizeLine; decide, fun t et => ?_⟩
        have nt : ¬ dl d l t := x.free et
        have D4f := D4
        refine fin _ t p 2 ts (x.new et) ((S25.trans k1).trans (SB.new et)) ?_ upd_same ?_ (hG.new et) (by decide) (by decide) (by omega) ⟨by omega, fun u hu => ?_⟩
        · exact (S25.trans k1).kp.free nt et
        · exact hN.deal S25 D5
        · obtain ⟨i, hi⟩ := List.getElem?_of_mem hu
          have := hz i u hi
          rw [hl]
          exact this
    · -- many columns
      refine ⟨_, rfl, _, rfl, d, l, _, rfl, m0, by omega, D2, fun H3 ma D3 S3 ma0 ma1 => ?_⟩
      have S23 : SB d l H2 H3 := S3
      refine ⟨_, _, rfl, rfl, ?_⟩
      refine ⟨Nat.zero_le _, fun c hc => ⟨_, _, rfl, ?_⟩⟩
      obtain ⟨many, em, q0, q1⟩ : ∃ many : Nat, (1 + ma : Int) = (many : Int) ∧ 0 < many ∧ (many : Int) ≤ most := ⟨(1 + ma).toNat, by omega, by omega, by omega⟩
      have c0 : H2 c = none := S3.kp.free (D3.free hc) hc
      refine ⟨_, rfl, (A : Int), rfl, by omega, by omega, ?_⟩
      rw [show ((A : Int)).toNat = A by omega]
      refine for_range (fun i σ H4 => ∃ (v9 v10 : Option V) (ts : List (Addr × List Int)), σ = [some (.ref d), some (.int most), some (.int form), some (.int (A : Int)), none, none, none, some (.int (1 + ma)), some (.ref c), v9, v10] ∧ DealAt H4 d l ∧ SB d l H2 H4 ∧ GridAt H4 c ts ∧ (∀ t ∈ ts, H2 t.1 = none ∧ t.1 ≠ c) ∧ ts.length = i ∧ ∀ t ∈ ts, t.2.length = many ∧ ∀ z ∈ t.2, 0 ≤ z ∧ z < (many : Int))
        ⟨none, none, [], rfl, D3.new hc, S3.trans (SB.new hc), ⟨upd_same, fun t ht => nomatch ht⟩, (fun t ht => nomatch ht), rfl, (fun t ht => nomatch ht)⟩ ?_ ?_
      · rintro i σ H4 hi ⟨v9, v10, ts, rfl, D4, S4, G4, N4, hl4, R4⟩
        have nc : ¬ dl d l c := D2.free c0
        have nts : ∀ t ∈ ts, ¬ dl d l t.1 := fun t ht => D2.free (N4 t ht).1
        have body : ∀ (H5 : Hp) (kind : Int), DealAt H5 d l → SB d l H4 H5 → (tDrop (tBM K "list" rAppend (tVar 8) (tCons (tCall spColumn [] E0 (tCons (tVar 0) (tCons (tVar 10) (tCons (tVar 7) tNil)))) tNil)))
            { nx := fun σ H4 => ∃ (v9 v10 : Option V) (ts : List (Addr × List Int)), σ = [some (.ref d), some (.int most), some (.int form), some (.int (A : Int)), none, none, none, some (.int (1 + ma)), some (.ref c), v9, v10] ∧ DealAt H4 d l ∧ SB d l H2 H4 ∧ GridAt H4 c ts ∧ (∀ t ∈ ts, H2 t.1 = none ∧ t.1 ≠ c) ∧ ts.length = i + 1 ∧ ∀ t ∈ ts, t.2.length = many ∧ ∀ z ∈ t.2, 0 ≤ z ∧ z < (many : Int),
              rt := Q } [some (.ref d), some (.int most), some (.int form), some (.int (A : Int)), none, none, none, some (.int (1 + ma)), some (.ref c), some (.int (0 + (i : Int))), some (.int kind)] H5 := by
          intro H5 kind D5 S5
          have G5 : GridAt H5 c ts := G4.kp S5.kp nc nts
          refine ⟨_, rfl, .inl ⟨rfl, _, SqL.of G5.top⟩, _, rfl, _, rfl, _, rfl, d, l, kind, 1 + ma, rfl, by omega, by omega, D5, fun H6 p ns D6 S6 hp6 hp6' hn6 hr6 => ?_⟩
          have G6 : GridAt H6 c ts := G5.kp S6.kp nc nts
          have S26 := (S4.trans S5).trans S6
          have np : H2 p = none := (S4.trans S5).kp.free (D5.free hp6) hp6
          have npc : p ≠ c := fun e => by
            rw [e, G5.top] at hp6
            cases hp6
          refine ⟨c, _, _, rfl, rfl, G6.top, ?_, _, _, ts ++ [(p, ns)], rfl, D6.upd nc, (S26.kp.mut c0).sb, G6.snoc hp6' npc fun t ht => (N4 t ht).2, fun t ht => ?_, by rw [List.length_append, hl4]; rfl, fun t ht => ?_⟩
          · rw [List.length_map]
            exact Nat.lt_of_le_of_lt (by omega : _ ≤ 1000) (by decide)
          · rcases List.mem_append.mp ht with h | h
            · exact N4 t h
            · rw [List.mem_singleton.mp h]
              exact ⟨np, npc⟩
          · rcases List.mem_append.mp ht with h | h
            · exact R4 t h
            · rw [List.mem_singleton.mp h]
              refine ⟨by show ns.length = many; omega, fun z hz => ?_⟩
              have := hr6 z hz
              omega
        refine ⟨_, rfl, _, _, rfl, rfl, _, rfl, ite2 (fun _ => ?_) (fun _ => ?_)⟩
        · exact ⟨_, rfl, d, l, _, rfl, by decide, by decide, D4, fun H5 kind D5 S5 _ _ => body H5 kind D5 S5⟩
        · exact ⟨_, rfl, body H4 form D4 (SB.refl _ _ _)⟩
      · rintro σ H4 ⟨v9, v10, ts, rfl, D4, S4, G4, N4, hl4, R4⟩
        refine ⟨_, rfl, _, rfl, c, ts, many, rfl, G4, by omega, by omega, by omega, fun t ht => (R4 t ht).1, fun H5 p us S5 N5 G5 hl5 R5 => ⟨by show 2 ≤ sizeLine; decide, fun t ht => ?_⟩⟩
        have S45 : SB d l H4 H5 := (KP.same (S := dl d l) S5).sb
        have D5 : DealAt H5 d l := by
          obtain ⟨bs, b, y⟩ := D4
          exact ⟨bs, b, S5 _ _ y.hd, S5 _ _ y.hl, y.pos, y.len, y.b0, y.b1⟩
        refine fin _ t p A us (D5.new ht) ((S4.trans S45).trans (SB.new ht)) ((S4.trans S45).kp.free (D5.free ht) ht) upd_same (N5.deal S4 D4) (G5.new ht) A0 A3 (by omega) ⟨by omega, fun u hu => ?_⟩
        have hu5 := R5 u hu
        refine ⟨by omega, fun z hz => ?_⟩
        obtain ⟨t, ht, hz'⟩ := hu5.2 z hz
        have := (R4 t ht).2 z hz'
        omega
end
end Lk

set_option Elab.async false
set_option maxRecDepth 100000
set_option maxHeartbeats 1000000
namespace Lk
open PySem L2
abbrev s_law_draw : Stmt := top 25
abbrev N_law_draw : List Str := ["script", "salt", "cells", "cell", "blend"]
abbrev P_law_draw : List Str := ["script", "salt"]
theorem sc_law_draw : FnScope N_law_draw P_law_draw (defScope s_law_draw) := ⟨rfl, rfl, rfl, by decide +kernel, rfl, by decide +kernel, by decide +kernel⟩
/-- a deal is made of the script -/
def spDraw (K : PySem.W.Frag) : Sp := fun vs H Q _ => ∃ (a : Addr) (ns : List Int) (salt : Int), vs = [.ref a, .int salt] ∧ SqL K H a (ns.map V.int) ∧ ns.length ≤ 63 ∧ 0 ≤ salt ∧ salt ≤ 1000 ∧
  ∀ (H' : Hp) (d l : Addr), DealAt H' d l → Same H H' → H d = none → H l = none → Q (.ref d) H'
/-- a drawn machine, with up to five commands -/
def spWide : Sp := fun vs H Q _ => ∃ (d l : Addr) (most : Int), vs = [.ref d, .int most] ∧ 0 < most ∧ most ≤ 100 ∧ DealAt H d l ∧
  ∀ (H' : Hp) (t p : Addr) (A : Nat) (ts : List (Addr × List Int)), DealAt H' d l → SB d l H H' → H t = none → H' t = some (.tup [.int A, .ref p]) → NewG H p ts → GridAt H' p ts → 0 < A → A ≤ 5 → (ts.length : Int) ≤ most → RowsOk A ts → Q (.ref t) H'
theorem cut_ints (ns : List Int) (lo hi : Option Int) : ∃ ms : List Int, cutV (ns.map V.int) lo hi = ms.map V.int ∧ ms.length ≤ ns.length := by
  refine ⟨(ns.drop (HT.sIx (ns.map V.int).length 0 lo)).take (HT.sIx (ns.map V.int).length (ns.map V.int).length hi - HT.sIx (ns.map V.int).length 0 lo), ?_, ?_⟩
  · unfold cutV
    rw [← List.map_drop, ← List.map_take]
  · rw [List.length_take, List.length_drop]
    omega
theorem cut48 (ns : List Int) : ∃ ms : List Int, cutV (ns.map V.int) none (some 48) = ms.map V.int ∧ ms.length ≤ 48 := by
  refine ⟨(ns.drop (HT.sIx (ns.map V.int).length 0 none)).take (HT.sIx (ns.map V.int).length (ns.map V.int).length (some 48) - HT.sIx (ns.map V.int).length 0 none), ?_, ?_⟩
  · unfold cutV
    rw [← List.map_drop, ← List.map_take]
  · rw [List.length_take]
    have e : HT.sIx (ns.map V.int).length (ns.map V.int).length (some 48) ≤ 48 := by
      show (if (48 : Int) < 0 then ((48 : Int) + (((ns.map V.int).length : Nat) : Int)).toNat else min (48 : Int).toNat (ns.map V.int).length) ≤ 48
      rw [if_neg (by decide)]
      exact Nat.min_le_left _ _
    omega
section
variable {P : Program} {w : World} {K : PySem.W.Frag} {mg : Str → Option Value} {base : Heap}
theorem ok_draw {f : Addr} {fd : FuncData} (A0 : Df K mg "_law_draw" s_law_draw f fd P_law_draw) (T : Txt mg) : FnOk P w K mg base CX0 1 f fd P_law_draw (spDraw K) := by
  refine A0.F.ok sc_law_draw (fun vs H Q E h => ?_) (fun cdv A outer s H vs Q E hr h => ?_)
  · obtain ⟨a, ns, salt, rfl, _⟩ := h
    rfl
  · obtain ⟨a, ns, salt, rfl, hS, hl, s0, s1, k⟩ := h
    refine ⟨_, (pss_cons (ps_setLc (i := 2) (own := [("cell", 3)]) (g := gName 3) (tt := tYes) rfl sc_law_draw.nd rfl rfl (sw_true rfl rfl rfl (by decide +kernel)) (pi_list (pe_slice sl_list (pv 0) po_none (po_some pe_int))) (blkOk_by (N := N_law_draw) (sc := defScope s_law_draw) (by decide +kernel)) (fun _ _ _ _ _ => (pg_name (i := 3) sc_law_draw.nd rfl (Or.inl rfl))) (fun _ _ _ _ _ => pts_nil) (fun _ _ _ _ _ => (pe_callB call_abs (by rfl) T.abs (by decide +kernel) (pa_cons (pe_callTy call_int1 (by rfl) T.int (by decide +kernel) (pa_cons (pv 3) pa_nil)) pa_nil))))
    (pss_cons (ps_set (i := 4) sc_law_draw.nd rfl (Or.inl rfl) (pe_op op_add pe_int (pe_op op_mul pe_int (pv 1))))
    (pss_cons (ps_for PassesOwn.never rfl (pi_list (pv 2)) (pg_name (i := 3) sc_law_draw.nd rfl (Or.inl rfl))
      (pss_one (ps_set (i := 4) sc_law_draw.nd rfl (Or.inl rfl) (pe_op op_mod (pe_callTy call_int1 (by rfl) T.int (by decide +kernel) (pa_cons (pe_op op_add (pe_op op_add (pe_op op_mul (pv 4) pe_int) (pe_op op_mod (pv 3) pe_int)) pe_int) pa_nil)) pe_int))))
    (pss_one (ps_ret (pe_lst (pa_cons (pe_revL (pe_lc (own := [("cell", 3)]) (g := gName 3) rfl sc_law_draw.nd (pi_list (pv 2)) (blkOk_by (N := N_law_draw) (sc := defScope s_law_draw) (by decide +kernel)) (fun _ _ _ _ _ => (pg_name (i := 3) sc_law_draw.nd rfl (Or.inl rfl))) (fun _ _ _ _ _ => (pts_one (pt_cmpR op_ge (pv 3) (pe_op op_pow pe_int pe_int) (nomark _)))) (fun _ _ _ _ _ => (pv 3)))) (pa_cons (pv 4) pa_nil)))))))), ?_⟩
    obtain ⟨ms, em, hm⟩ := cut48 ns
    refine ⟨_, rfl, _, rfl, a, _, rfl, hS, fun p hp => ⟨p, rfl, ⟨_, SqL.of upd_same⟩, fun D hD => ?_⟩⟩
    rw [em] at hD ⊢
    have hpD : ∀ {o}, upd (upd H p (HO.lst (ms.map V.int))) D o p = some (.lst (ms.map V.int)) := nk upd_same hD
    refine lcL (xs := ms.map V.int) (fun _ => False) (fun _ => True) (fun _ y _ => ∃ z : Int, y = V.int z ∧ 0 ≤ z) hD id (by rw [List.length_map]; omega) trivial (fun _ _ _ => trivial) (fun _ _ _ _ _ x => x) (fun H2 kp => SqL.of (kp.get id upd_same)) (fun j x H2 acc hj _ k2 _ Q2 kQ => ?_) (fun ys H2 hl2 hf hD2 _ k2 => ?_)
    · obtain ⟨z, rfl⟩ : ∃ z, x = V.int z := by
        obtain ⟨z, _, e⟩ := List.mem_map.mp (mem_of_get hj)
        exact ⟨z, e.symm⟩
      exact ⟨_, rfl, .inl ⟨_, rfl, _, rfl, kQ _ _ trivial (KP.refl _ _) ⟨_, rfl, by split <;> omega⟩⟩⟩
    obtain ⟨cs, rfl, hc⟩ := collect (g := V.int) hf
    have hcs : cs.length ≤ 48 := by
      rw [List.length_map, List.length_map] at hl2
      omega
    have c0 : ∀ z ∈ cs, 0 ≤ z := all_of_get hc
    have S2 : Same H H2 := ((KP.new (S := fun _ => False) hp).trans k2).toSame
    have nD : H D = none := ff hp hD
    refine ⟨_, rfl, _, _, rfl, rfl, .inl ⟨by decide, by decide⟩, _, _, rfl, rfl, ?_⟩
    refine ⟨_, rfl, D, rfl, ⟨_, SqL.of hD2⟩, for_list (K := K) (a := D) (xs := cs.map V.int) (fun i σ H3 => H3 = H2 ∧ ∃ (b : Int) (v : Option V), σ = [some (.ref a), some (.int salt), some (.ref D), v, some (.int b)] ∧ 0 ≤ b ∧ b < 2147483647) ⟨rfl, _, none, rfl, by omega, by omega⟩ (fun i σ H3 _ x => by rw [x.1]; exact SqL.of hD2) ?_ ?_⟩
    · rintro i x σ H3 hi ⟨rfl, b, v, rfl, b0, b1⟩
      obtain ⟨z, rfl⟩ : ∃ z, x = V.int z := by
        obtain ⟨z, _, e⟩ := List.mem_map.mp (mem_of_get hi)
        exact ⟨z, e.symm⟩
      refine ⟨_, rfl, _, _, rfl, rfl, .inr ⟨by decide, by decide⟩, _, rfl, _, _, rfl, rfl, (by show (0 : Int) < 2147483549; decide), _, _, rfl, rfl, _, _, rfl, rfl, .inl ⟨_, rfl, _, _, rfl, rfl, (by show (0 : Int) < 2147483647; decide), ?_⟩⟩
      exact ⟨rfl, _, _, rfl, Int.emod_nonneg _ (by decide), Int.emod_lt_of_pos _ (by decide)⟩
    · rintro σ H3 ⟨rfl, b, v, rfl, b0, b1⟩
      refine ⟨_, rfl, D, rfl, ⟨_, SqL.of hD2⟩, fun q hq => ?_⟩
      refine lc_list (xs := cs.map V.int) (fun i H4 => Same H3 H4 ∧ ∃ gs : List Int, H4 q = some (.lst (gs.map V.int)) ∧ gs.length ≤ i ∧ ∀ z ∈ gs, 0 ≤ z) ⟨(KP.new (S := fun _ => False) hq).toSame, [], upd_same, Nat.le_refl _, fun z hz => nomatch hz⟩ (fun i H4 _ x => SqL.of (x.1 _ _ hD2)) (fun i x H4 hi x4 => ?_) (fun H4 x4 => ?_)
      · obtain ⟨z, hz, rfl⟩ := List.mem_map.mp (mem_of_get hi)
        obtain ⟨S4, gs, e4, l4, p4⟩ := x4
        have hi48 : i < 48 := by
          have := (List.getElem?_eq_some_iff.mp hi).1
          rw [List.length_map] at this
          omega
        refine ⟨wipe1 _ _ _, _, rfl, _, _, rfl, rfl, ⟨by decide, by decide, by decide⟩, _, _, rfl, rfl, _, rfl, ite2 (fun _ => ?_) (fun _ => ⟨S4, gs, e4, by omega, p4⟩)⟩
        refine ⟨_, rfl, _, e4, ?_, ?_, gs ++ [z], ?_, ?_, ?_⟩
        · rw [List.length_map]
          exact Nat.lt_of_le_of_lt (by omega : _ ≤ 48) (by decide)
        · exact ((KP.same (S := fun _ => False) S4).mut hq).toSame
        · rw [upd_same, List.map_append]
          rfl
        · rw [List.length_append]
          simp only [List.length_cons, List.length_nil]
          omega
        · intro y hy
          rcases List.mem_append.mp hy with h | h
          · exact p4 y h
          · rw [List.mem_singleton.mp h]
            exact c0 z hz
      · obtain ⟨S4, gs, e4, l4, p4⟩ := x4
        rw [List.length_map] at l4
        refine ⟨q, _, rfl, SqL.of e4, fun l hl => ⟨_, rfl, by show 2 ≤ sizeLine; decide, fun d hd => ?_⟩⟩
        rw [← List.map_reverse] at hd ⊢
        have nl : H l = none := (S2.trans S4).free hl
        refine k _ d l ⟨gs.reverse, b, ⟨upd_same, nk upd_same hd, fun y hy => p4 y (List.mem_reverse.mp hy), by rw [List.length_reverse]; omega, b0, b1⟩⟩ ?_ ((S2.trans S4).free (ff hl hd)) nl
        exact (((KP.same (S := fun _ => False) (S2.trans S4)).trans (KP.new hl)).trans (KP.new hd)).toSame
end
end Lk

set_option Elab.async false
set_option maxRecDepth 100000
set_option maxHeartbeats 1000000
namespace Lk
open PySem L2
def rLs (K : PySem.W.Frag) : List V → Hp → VK → Prop := fun xs H Q => ∃ p ys, xs = [.ref p] ∧ (SqL K H p ys ∨ SqT K H p ys) ∧ ∀ l, H l = none → Q (.ref l) (upd H l (.lst ys))
def rLn (K : PySem.W.Frag) : List V → Hp → VK → Prop := fun xs H Q => ∃ p ys, xs = [.ref p] ∧ (SqL K H p ys ∨ SqT K H p ys) ∧ Q (.int ys.length) H
theorem cases_list {α : Type} {xs : List α} {i : Nat} {x : α} (h : xs[i]? = some x) : i < xs.length := (List.getElem?_eq_some_iff.mp h).1
theorem grid_get {ts : List (Addr × List Int)} {i : Nat} {x : V} (h : (ts.map fun t => V.ref t.1)[i]? = some x) : ∃ t ∈ ts, x = V.ref t.1 := by
  obtain ⟨t, ht, e⟩ := List.mem_map.mp (mem_of_get h)
  exact ⟨t, ht, e.symm⟩
section
variable {P : Program} {w : World} {K : PySem.W.Frag} {mg : Str → Option Value} {base : Heap}
end
end Lk

set_option Elab.async false
set_option maxRecDepth 100000
set_option maxHeartbeats 1000000
namespace Lk
open PySem L2
theorem take_next {α : Type} : ∀ {xs : List α} {i : Nat} {x : α}, xs[i]? = some x → xs.take (i + 1) = xs.take i ++ [x]
  | [], _, _, h => by simp at h
  | y :: xs, 0, x, h => by
    have e : y = x := Option.some.inj h
    rw [e]
    rfl
  | y :: xs, i + 1, x, h => by
    show y :: xs.take (i + 1) = y :: (xs.take i ++ [x])
    rw [take_next (xs := xs) (i := i) h]
theorem sameT {K : PySem.W.Frag} {H H' : Hp} {a : Addr} {xs : List V} (e : Same H H') (h : SqT K H a xs) : SqT K H' a xs := by
  rcases h with (h | ⟨o, h⟩) | h
  · exact .inl (.inl (e _ _ h))
  · exact .inl (.inr ⟨o, e _ _ h⟩)
  · exact .inr h
section
variable {K : PySem.W.Frag} {j : Nat} {te : TE} {σ : St} {H1 : Hp} {D : Addr} {Qd : Hp → Prop}

theorem lcPL {a : Addr} {xs : List V} (F : V → V) (hD : H1 D = none) (hn : xs.length ≤ 1000000) (ha : SqL K H1 a xs)
    (hs : ∀ x ∈ xs, ∀ H, Same H1 H → ∀ Q : VK, (∀ H4, Same H H4 → Q (F x) H4) → te ((wipe σ [j]).set j (some x)) H Q)
    (hd : ∀ H', H' D = some (.lst (xs.map F)) → Same H1 H' → Qd H') :
    ∃ W : Nat → Nat → Hp → Prop, (∃ m, W 0 m (upd H1 D (.lst []))) ∧ ∀ i m H, W i m H →
      ((Itl K a).stop i H ∧ Qd H) ∨ ((Itl K a).go i H ∧ ∃ Nx : Hp → Prop, (∀ H', Nx H' → ∃ m', m' < m ∧ W (i + 1) m' H') ∧ ∀ x H', (Itl K a).yld i H x H' → gName j x (wipe σ [j]) H' fun σ2 H2 => wipe σ2 [j] = wipe σ [j] ∧ tYes σ2 H2 fun b H3 =>
        if b = true then te σ2 H3 fun y H4 => ∃ acc, H4 D = some (.lst acc) ∧ acc.length < sizeLine ∧ Nx (upd H4 D (.lst (acc ++ [y]))) else Nx H3) := by
  refine lc_list (xs := xs) (fun i H => Same H1 H ∧ H D = some (.lst ((xs.take i).map F))) ⟨(KP.new (S := fun _ => False) hD).toSame, upd_same⟩ (fun i H _ x => Same.seq x.1 ha) (fun i x0 H hi x => ?_) (fun H x => ?_)
  · refine ⟨wipe1 _ _ _, iteT (B := Same H1 H ∧ H D = some (.lst ((xs.take (i + 1)).map F))) ?_⟩
    refine hs x0 (mem_of_get hi) H x.1 _ fun H4 S4 => ⟨_, S4 _ _ x.2, ?_, ((KP.same (S := fun _ => False) (x.1.trans S4)).mut hD).toSame, ?_⟩
    · rw [List.length_map, List.length_take]
      exact Nat.lt_of_le_of_lt (Nat.le_trans (Nat.min_le_right _ _) hn) (by decide)
    · rw [upd_same, take_next hi, List.map_append]
      rfl
  · have e := x.2
    rw [List.take_length] at e
    exact hd H e x.1

theorem lcPT {a : Addr} {xs : List V} (F : V → V) (hD : H1 D = none) (hn : xs.length ≤ 1000000) (ha : SqT K H1 a xs)
    (hs : ∀ x ∈ xs, ∀ H, Same H1 H → ∀ Q : VK, (∀ H4, Same H H4 → Q (F x) H4) → te ((wipe σ [j]).set j (some x)) H Q)
    (hd : ∀ H', H' D = some (.lst (xs.map F)) → Same H1 H' → Qd H') :
    ∃ W : Nat → Nat → Hp → Prop, (∃ m, W 0 m (upd H1 D (.lst []))) ∧ ∀ i m H, W i m H →
      ((Itt K a).stop i H ∧ Qd H) ∨ ((Itt K a).go i H ∧ ∃ Nx : Hp → Prop, (∀ H', Nx H' → ∃ m', m' < m ∧ W (i + 1) m' H') ∧ ∀ x H', (Itt K a).yld i H x H' → gName j x (wipe σ [j]) H' fun σ2 H2 => wipe σ2 [j] = wipe σ [j] ∧ tYes σ2 H2 fun b H3 =>
        if b = true then te σ2 H3 fun y H4 => ∃ acc, H4 D = some (.lst acc) ∧ acc.length < sizeLine ∧ Nx (upd H4 D (.lst (acc ++ [y]))) else Nx H3) := by
  refine lc_tup (xs := xs) (fun i H => Same H1 H ∧ H D = some (.lst ((xs.take i).map F))) ⟨(KP.new (S := fun _ => False) hD).toSame, upd_same⟩ (fun i H _ x => sameT x.1 ha) (fun i x0 H hi x => ?_) (fun H x => ?_)
  · refine ⟨wipe1 _ _ _, iteT (B := Same H1 H ∧ H D = some (.lst ((xs.take (i + 1)).map F))) ?_⟩
    refine hs x0 (mem_of_get hi) H x.1 _ fun H4 S4 => ⟨_, S4 _ _ x.2, ?_, ((KP.same (S := fun _ => False) (x.1.trans S4)).mut hD).toSame, ?_⟩
    · rw [List.length_map, List.length_take]
      exact Nat.lt_of_le_of_lt (Nat.le_trans (Nat.min_le_right _ _) hn) (by decide)
    · rw [upd_same, take_next hi, List.map_append]
      rfl
  · have e := x.2
    rw [List.take_length] at e
    exact hd H e x.1

theorem lcPR {n : Nat} (F : Nat → V) (hD : H1 D = none) (hn : n ≤ 1000000)
    (hs : ∀ i, i < n → ∀ H, Same H1 H → ∀ Q : VK, (∀ H4, Same H H4 → Q (F i) H4) → te ((wipe σ [j]).set j (some (.int (0 + i)))) H Q)
    (hd : ∀ H', H' D = some (.lst ((List.range n).map F)) → Same H1 H' → Qd H') :
    ∃ W : Nat → Nat → Hp → Prop, (∃ m, W 0 m (upd H1 D (.lst []))) ∧ ∀ i m H, W i m H →
      ((Itr 0 n).stop i H ∧ Qd H) ∨ ((Itr 0 n).go i H ∧ ∃ Nx : Hp → Prop, (∀ H', Nx H' → ∃ m', m' < m ∧ W (i + 1) m' H') ∧ ∀ x H', (Itr 0 n).yld i H x H' → gName j x (wipe σ [j]) H' fun σ2 H2 => wipe σ2 [j] = wipe σ [j] ∧ tYes σ2 H2 fun b H3 =>
        if b = true then te σ2 H3 fun y H4 => ∃ acc, H4 D = some (.lst acc) ∧ acc.length < sizeLine ∧ Nx (upd H4 D (.lst (acc ++ [y]))) else Nx H3) := by
  refine lc_range (fun i H => Same H1 H ∧ H D = some (.lst ((List.range i).map F))) ⟨(KP.new (S := fun _ => False) hD).toSame, upd_same⟩ (fun i H hi x => ?_) (fun H x => hd H x.2 x.1)
  refine ⟨wipe1 _ _ _, iteT (B := Same H1 H ∧ H D = some (.lst ((List.range (i + 1)).map F))) ?_⟩
  refine hs i hi H x.1 _ fun H4 S4 => ⟨_, S4 _ _ x.2, ?_, ((KP.same (S := fun _ => False) (x.1.trans S4)).mut hD).toSame, ?_⟩
  · rw [List.length_map, List.length_range]
    exact Nat.lt_of_le_of_lt (Nat.le_trans (Nat.le_of_lt hi) hn) (by decide)
  · rw [upd_same, List.range_succ, List.map_append]
    rfl
end
/-! ### the law's own walks, as functions -/
def stp (rs : List (List Int)) (s c : Int) : Int := (rs.getD s.toNat []).getD c.toNat 0
def led (rs : List (List Int)) (s : Int) (ns : List Int) : Int := ns.foldl (stp rs) s
def effs (rs : List (List Int)) (ns : List Int) : List Int := (List.range rs.length).map fun (s : Nat) => led rs (s : Int) ns
def comp (f g : List Int) : List Int := f.map fun s => g.getD s.toNat 0
def powG : Nat → Nat → List Int → List Int → List Int
  | 0, _, _, found => found
  | k + 1, t, one, found => if t = 0 then found else powG k (t / 2) (comp one one) (if t % 2 = 1 then comp found one else found)
/-- a machine's rows: states are below their number, commands below A -/
structure Rs (A : Nat) (rs : List (List Int)) : Prop where
  pos : 0 < rs.length
  row : ∀ r ∈ rs, r.length = A ∧ ∀ z ∈ r, 0 ≤ z ∧ z < (rs.length : Int)
theorem RowsOk.rs {A : Nat} {ts : List (Addr × List Int)} (x : RowsOk A ts) : Rs A (ts.map (·.2)) := by
  refine ⟨by rw [List.length_map]; exact x.pos, fun r hr => ?_⟩
  obtain ⟨t, ht, rfl⟩ := List.mem_map.mp hr
  rw [List.length_map]
  exact x.row t ht
theorem getD_of {α : Type} {xs : List α} {i : Nat} {d x : α} (h : xs[i]? = some x) : xs.getD i d = x := by
  rw [List.getD_eq_getElem?_getD, h] <;> rfl
/-- an index below, as an item -/
theorem item_of {α : Type} {xs : List α} {s : Int} (h0 : 0 ≤ s) (h1 : s < (xs.length : Int)) (d : α) : xs[s.toNat]? = some (xs.getD s.toNat d) := by
  have h : s.toNat < xs.length := by omega
  rw [List.getElem?_eq_getElem h, getD_of (List.getElem?_eq_getElem h)]
theorem Rs.stp {A : Nat} {rs : List (List Int)} (x : Rs A rs) {s c : Int} (s0 : 0 ≤ s) (s1 : s < rs.length) (c0 : 0 ≤ c) (c1 : c < A) : 0 ≤ Lk.stp rs s c ∧ Lk.stp rs s c < (rs.length : Int) := by
  have hm := mem_of_get (item_of s0 s1 ([] : List Int))
  obtain ⟨h1, h2⟩ := x.row _ hm
  exact h2 _ (mem_of_get (item_of c0 (by rw [h1]; exact c1) (0 : Int)))
theorem Rs.led {A : Nat} {rs : List (List Int)} (x : Rs A rs) : ∀ {ns : List Int} {s : Int}, 0 ≤ s → s < rs.length → (∀ c ∈ ns, 0 ≤ c ∧ c < (A : Int)) → 0 ≤ Lk.led rs s ns ∧ Lk.led rs s ns < (rs.length : Int)
  | [], s, h0, h1, _ => ⟨h0, h1⟩
  | c :: ns, s, h0, h1, h => by
    obtain ⟨c0, c1⟩ := h c List.mem_cons_self
    obtain ⟨q0, q1⟩ := x.stp h0 h1 c0 c1
    exact x.led (ns := ns) q0 q1 fun z hz => h z (List.mem_cons_of_mem _ hz)
end Lk

set_option Elab.async false
set_option maxRecDepth 100000
set_option maxHeartbeats 1000000
namespace Lk
open PySem L2
/-- a drawn row -/
def spRow : Sp := fun vs H Q _ => ∃ (d l : Addr) (A n : Int), vs = [.ref d, .int A, .int n] ∧ 0 < A ∧ A ≤ 1000 ∧ 0 ≤ n ∧ n ≤ 1000 ∧ DealAt H d l ∧
  ∀ (H' : Hp) (p : Addr) (ns : List Int), DealAt H' d l → SB d l H H' → H p = none → H' p = some (.tup (ns.map V.int)) → (ns.length : Int) = n → (∀ z ∈ ns, 0 ≤ z ∧ z < A) → Q (.ref p) H'
def rsOf (ts : List (Addr × List Int)) : List (List Int) := ts.map (·.2)
def spLed (K : PySem.W.Frag) : Sp := fun vs H Q _ => ∃ (a p : Addr) (s : Int) (A : Nat) (ts : List (Addr × List Int)) (ns : List Int), vs = [.ref a, .int s, .ref p] ∧ GridAt H a ts ∧ RowsOk A ts ∧ 0 ≤ s ∧ s < ts.length ∧ SqT K H p (ns.map V.int) ∧ (∀ c ∈ ns, 0 ≤ c ∧ c < (A : Int)) ∧
  Q (.int (led (rsOf ts) s ns)) H
def spEffect (K : PySem.W.Frag) : Sp := fun vs H Q _ => ∃ (a p : Addr) (A : Nat) (ts : List (Addr × List Int)) (ns : List Int), vs = [.ref a, .ref p] ∧ GridAt H a ts ∧ RowsOk A ts ∧ ts.length ≤ 1000 ∧ SqT K H p (ns.map V.int) ∧ (∀ c ∈ ns, 0 ≤ c ∧ c < (A : Int)) ∧
  ∀ (H' : Hp) (q : Addr), Same H H' → H q = none → H' q = some (.tup ((effs (rsOf ts) ns).map V.int)) → Q (.ref q) H'
def rng (n : Nat) : List Int := (List.range n).map fun (i : Nat) => (i : Int)
def spPower (K : PySem.W.Frag) : Sp := fun vs H Q _ => ∃ (a : Addr) (t : Int) (fs : List Int), vs = [.ref a, .int t] ∧ SqL K H a (fs.map V.int) ∧ fs.length ≤ 1000 ∧ (∀ z ∈ fs, 0 ≤ z ∧ z < (fs.length : Int)) ∧ 0 ≤ t ∧ t < 2 ^ 63 ∧
  ∀ (H' : Hp) (q : Addr), Same H H' → H q = none → H' q = some (.tup ((powG 63 t.toNat fs (rng fs.length)).map V.int)) → Q (.ref q) H'
theorem rsOf_get {ts : List (Addr × List Int)} {i : Nat} {u : Addr × List Int} (h : ts[i]? = some u) : (rsOf ts)[i]? = some u.2 := by
  show (ts.map (·.2))[i]? = _
  rw [List.getElem?_map, h]
  rfl
section
variable {P : Program} {w : World} {K : PySem.W.Frag} {mg : Str → Option Value} {base : Heap}
def fC (one : List Int) : V → V
  | .int s => .int (one.getD s.toNat 0)
  | x => x
theorem fC_map (f g : List Int) : (f.map V.int).map (fC g) = (comp f g).map V.int := by
  unfold comp
  rw [List.map_map, List.map_map]
  rfl
structure InR (n : Nat) (f : List Int) : Prop where
  len : f.length = n
  mem : ∀ z ∈ f, 0 ≤ z ∧ z < (n : Int)
theorem InR.comp {n : Nat} {f g : List Int} (x : InR n f) (y : InR n g) : InR n (Lk.comp f g) := by
  refine ⟨by unfold Lk.comp; rw [List.length_map, x.len], fun z hz => ?_⟩
  obtain ⟨s, hs, rfl⟩ := List.mem_map.mp hz
  obtain ⟨s0, s1⟩ := x.mem s hs
  exact y.mem _ (mem_of_get (item_of s0 (by rw [y.len]; exact s1) (0 : Int)))
theorem InR.rng (n : Nat) : InR n (Lk.rng n) := by
  refine ⟨by unfold Lk.rng; simp, fun z hz => ?_⟩
  obtain ⟨i, hi, rfl⟩ := List.mem_map.mp hz
  have := List.mem_range.mp hi
  omega
theorem rgV_rng (n : Nat) : rgV 0 (n : Int) = (rng n).map V.int := by
  unfold rgV rng
  rw [List.map_map]
  simp
end
end Lk

set_option Elab.async false
set_option maxRecDepth 100000
set_option maxHeartbeats 1000000
/-! enumerate over a tuple, as a walk of the hand layer -/
namespace Lk
open PySem PySem.Spec PyProof.Rows L2
/-- a new enumerate object over the iterator at it -/
def enumO (it : Addr) : Obj := { cls := .type "enumerate", data := .fields #[.none, .bool false, .ref it, rawInt 0, .none, .none] }
theorem meets_enumT (a : Addr) (items : Array Value) (dct : Option Addr) (n : Nat) (sl : Array (Option Value)) :
    Meets (Builtin.«enumerate.__new__» ⟨[.type "enumerate", .ref a], []⟩) (fun _ R s =>
      s.heap.get? a = some { cls := .type "tuple", dict := dct, data := .seq items n, slots := sl } ∧
      R (.ok (.ret (.ref (s.heap.push { cls := .type "tuple_iterator", data := .fields #[.ref a, .int 0 0] }).objs.size)))
        { s with heap := (s.heap.push { cls := .type "tuple_iterator", data := .fields #[.ref a, .int 0 0] }).push (enumO s.heap.objs.size) }) :=
  .of_wp fun prog w A R s h => by
    obtain ⟨hp, g, d, tk, os⟩ := s
    obtain ⟨hl, h⟩ := h
    have hsub := sub_enumerate
    have hT : Heap.IsTuple (Shared.heap ⟨hp, g, d, tk, os⟩) a items := ⟨_, hl, rfl, n, rfl⟩
    wp_walk using AutoSeq1.wpAny_loadPart' hl
    refine wpAny_stack_any fun st => wpAny_pure ?_
    split
    · rename_i c _ _ _ _ _
      cases (c == Value.type "enumerate") <;>
      · wp_walk using AutoSeq1.wpAny_loadPart' hl, wpAny_pyIter_tuple hT
        exact ⟨_, rfl, h⟩
    · wp_walk using AutoSeq1.wpAny_loadPart' hl, wpAny_pyIter_tuple hT
      exact ⟨_, rfl, h⟩
section
variable {prog : Program} {w : World} {A : Around} {E : Value → Shared → Prop} {s : Shared}
theorem call_enumT {a : Addr} {items : Array Value} {Q : Value → Shared → Prop} (hT : s.heap.IsTuple a items)
    (h : ∀ h', IsEnum h' (s.heap.objs.size + 1) s.heap.objs.size 0 .none →
      h'.IsTupleIter s.heap.objs.size a 0 →
      (∀ b o, s.heap.get? b = some o → h'.get? b = some o) →
      Q (.ref (s.heap.objs.size + 1)) { s with heap := h' }) :
    wpAny (model prog w) A (call (.type "enumerate") [.ref a]) Q E s := by
  obtain ⟨⟨c, dct, dt, sl⟩, hl, hc, n, hd⟩ := hT
  replace hc : c = .type "tuple" := hc
  replace hd : dt = .seq items n := hd
  subst hc hd
  refine callType_new F.called_enumerate (by decide) (F.typeCall_enumerate_1 _) (F.newCall_enumerate_1 _)
    (fun obj => F.args_object_init_2 obj _) F.entry_enumerate_new (meets_enumT a items dct n sl) ⟨hl, ?_⟩
  have hz : (s.heap.push { cls := .type "tuple_iterator", data := .fields #[.ref a, .int 0 0] }).objs.size
      = s.heap.objs.size + 1 := Heap.size_push ..
  show _ ∧ _
  rw [hz]
  have he : IsEnum ((s.heap.push { cls := .type "tuple_iterator", data := .fields #[.ref a, .int 0 0] }).push (enumO s.heap.objs.size))
      (s.heap.objs.size + 1) s.heap.objs.size 0 .none := by
    have q := Heap.get?_push_size (s.heap.push { cls := .type "tuple_iterator", data := .fields #[.ref a, .int 0 0] })
      (o := enumO s.heap.objs.size) rfl
    rw [hz] at q
    exact q
  have hi : ((s.heap.push { cls := .type "tuple_iterator", data := .fields #[.ref a, .int 0 0] }).push (enumO s.heap.objs.size)).IsTupleIter
      s.heap.objs.size a 0 := ⟨_, Heap.get?_push_of_some _ (Heap.get?_push_size _ rfl), rfl, rfl⟩
  exact ⟨⟨_, he, rfl⟩, h _ he hi fun b o x => Heap.get?_push_of_some _ (Heap.get?_push_of_some _ x)⟩
end
theorem next_enumT_end {prog : Program} {w : World} {A : Around} {E : Value → Shared → Prop} {s : Shared}
    {e it a : Addr} {i : Nat} {items : Array Value} {old : Value} {Q : Option Value → Shared → Prop} (hh : A.handled = none)
    (he : IsEnum s.heap e it i old) (hit : s.heap.IsTupleIter it a i) (ha : s.heap.IsTuple a items) (hx : items[i]? = none)
    (hQ : ∀ h', Heap.ExtBut it s.heap h' → Q none { s with heap := h' }) :
    wpAny (model prog w) A (pyNext (.ref e)) Q E s := by
  have hT : s.TypeIs (.ref e) "enumerate" := ⟨_, he, rfl⟩
  unfold pyNext
  refine wpAny_bind (wpAny_attempt (wpAny_callSpecial?_slot (name := Str.ofString "__next__") hT
    F.slot_enumerate_next (wpAny_call_entry F.slot_enumerate_next hT F.entry_enumerate_next ?_
      (F.args_enumerate_next_1 _))))
  show wpAny _ _ (field (.ref e) 2 >>= _) _ _ _
  refine wpAny_bind (wpAny_field he rfl (x := .ref it) rfl (wpAny_bind
    (wpAny_nextOf_tuple_end hh hit ha hx fun h' x hb hc => ?_)))
  obtain ⟨o, ho, hc⟩ := hc
  refine wpAny_bind (wpAny_isInstance (T := "StopIteration") (b := true) ⟨o, ho, hc⟩ isSubtype_stop ?_)
  exact wpAny_pure (hQ _ hb)
/-- the tuple at a, each item in a new pair with its index -/
def ItE (K : PySem.W.Frag) (a : Addr) : It :=
  ⟨fun i H => ∃ (xs : List V) (x : V), SqT K H a xs ∧ xs[i]? = some x,
    fun i H v H' => ∃ T x, v = .ref T ∧ H T = none ∧ H' = upd H T (.tup [.int (i : Nat), x]) ∧
      ∀ xs, SqT K H a xs → xs[i]? = some x,
    fun i H => ∃ xs : List V, SqT K H a xs ∧ xs.length ≤ i⟩
theorem turn_enumT {P : Program} {w : World} {K : PySem.W.Frag} {elts : List Expr} {kk : Nat} {tpos : Pos} (a e it : Addr) :
    Turn P w K (.Tuple elts kk tpos) (ItE K a) [e, it] e
      (fun i h => (∃ old, IsEnum h e it ((i : Nat) : Int) old) ∧ h.IsTupleIter it a i ∧ e ≠ it ∧ a ≠ it ∧ e ≠ a) where
  mem := by simp
  obj := fun i h st b hb => by
    obtain ⟨⟨old, he⟩, ⟨o, ho, hc, hd⟩, _⟩ := st
    have e' : b = e ∨ b = it := by simpa using hb
    rcases e' with z | z
    · rw [z]
      exact ⟨_, he, fun v q => nomatch q⟩
    · rw [z]
      exact ⟨o, ho, fun v q => by rw [hd] at q; cases q⟩
  keep := fun i h h' st k =>
    let ⟨⟨old, he⟩, hi, hne⟩ := st
    ⟨⟨old, k e (by simp) _ he⟩, hi.at fun o q => k it (by simp) o q, hne⟩
  item := by
    intro X hP hw hK hc i pins s σ H E I hf st hg
    subst hP hw hK
    obtain ⟨⟨old, he⟩, hit, hne, hat, hea⟩ := st
    obtain ⟨xs, x, hq, hx⟩ := hg
    obtain ⟨its, rv, p, hz⟩ := I.tuple hq
    obtain ⟨u, hu, ru⟩ := rv.get hx
    have hel : e < s.heap.objs.size := Heap.lt_size he
    have hil : it < s.heap.objs.size := by obtain ⟨_, q, _⟩ := hit; exact Heap.lt_size q
    have p' : s.heap.IsTuple a its.toArray := p
    have hlt : i < its.toArray.size := by
      have := (List.getElem?_eq_some_iff.mp hu).1
      simpa using this
    have hh : X.A.in1.handled = none := I.ok.hd hc
    refine wpAny_pyNext_enum_itemD (Draws.tuple (prog := X.prog) (w := X.w) (A := X.A.in1) hh it a hat its.toArray) he
      ⟨hit, p'⟩ hlt hne (by simp; exact ⟨hne, hea⟩) fun y h' tk hy ho hst hT hsz hk => ?_
    have ey : y = u := by
      have q : its.toArray[i]? = some u := by simpa using hu
      rw [q] at hy
      exact (Option.some.inj hy).symm
    subst ey
    refine ⟨_, rfl, wpAny_letOwnedTupleGo_enum (s := { s with heap := h', toks := tk + 1 }) ho fun h'' he' sb => ?_⟩
    have hT2 : h''.get? s.heap.objs.size = some { cls := .type "tuple", data := .seq #[.int i tk, y] } :=
      (sb.2 _ (Nat.ne_of_gt hel)).trans hT
    have new : ObjOk X.prog X.w (upd H s.heap.objs.size (.tup [.int (i : Nat), x])) h'' s.heap.objs.size (.tup [.int (i : Nat), x]) :=
      ⟨by show 2 ≤ sizeLine; decide, [.int i tk, y], .cons ⟨_, rfl⟩ (.cons ru .nil), ⟨_, hT2, rfl, _, rfl⟩⟩
    have I1 : Inv X pins σ (upd H s.heap.objs.size (.tup [.int (i : Nat), x])) { s with heap := h'', toks := tk + 1 } :=
      I.turnedNew (ch := [e, it]) (fun b ob hb q => (sb.2 b (fun z => hb (by simp [z]))).trans
        (hk b ob (fun z => hb (by simp [z])) (fun z => hb (by simp [z])) q)) hf (Nat.le_refl _) new
    refine ⟨.ref s.heap.objs.size, _, I1, rfl, ⟨_, x, rfl, I.hok.fresh (Nat.le_refl _), rfl, fun ys hy => by
      rw [I.tuple_inj hy hq]; exact hx⟩, ⟨⟨y, ?_⟩, hst.1.at fun o q => (sb.2 it (Ne.symm hne)).trans q, hne, hat, hea⟩, fun b hb => ?_⟩
    · have e1 : ((i + 1 : Nat) : Int) = (i : Int) + 1 := by omega
      rw [e1]
      exact he'
    · have hb' : b < s.heap.objs.size := by
        have e' : b = e ∨ b = it := by simpa using hb
        rcases e' with z | z
        · rw [z]; exact hel
        · rw [z]; exact hil
      rw [upd_ne (Nat.ne_of_lt hb')]
      exact (hf b hb).1
  done := by
    intro X hP hw hK hc i pins s σ H E I hf st hg
    subst hP hw hK
    obtain ⟨⟨old, he⟩, hit, hne, hat, hea⟩ := st
    obtain ⟨xs, hq, hx⟩ := hg
    obtain ⟨its, rv, p, hz⟩ := I.tuple hq
    obtain ⟨f0, f1, f2, f3, f4, f5⟩ := hf it (by simp)
    have hl := rv.length
    exact next_enumT_end (I.ok.hd hc) he hit (show s.heap.IsTuple a its.toArray from p) (by simp; omega) fun h' eb =>
      ⟨rfl, I.turned (t' := s.toks) (fun b o hb q => eb b o hb q) f0 f1 f3 f4 f5⟩
  self := fun A i s Q E st h => let ⟨⟨_, he⟩, _⟩ := st; wpAny_pyIter_enum he h
def iEnumT (K : PySem.W.Frag) (ta : TA) : TI := fun σ H R => ta σ H fun vs H1 => ∃ a xs, vs = [.ref a] ∧ SqT K H1 a xs ∧ R (ItE K a) H1
theorem pi_enumT {X : Cx} {e : Expr} {ta : TA} {p pos tpos : Pos} {elts : List Expr} {kk : Nat} (hg : Gl X "enumerate")
    (hm : X.mg "enumerate" = none) (ha : PA X [e] ta) (hs : starEach [e] X.env = [(false, eval e X.env)] := by rfl) :
    PI X (.Tuple elts kk tpos) (.Call (.Name "enumerate" p) [e] [] pos) (iEnumT X.K ta) := by
  refine ⟨fun pins s σ H R I h => ?_⟩
  refine Call_ (ld_blt I hg hm boot_enumerate (PyProof.Rows.callWith_type1
    (thn (ha.run pos pins s σ H _ I h) fun us s1 ⟨vs, H1, I1, r1, q1⟩ => ?_) hs rfl))
  obtain ⟨a, xs, ex, hq, q⟩ := q1
  subst ex
  cases r1 with
  | cons r rr =>
    cases rr
    cases r
    obtain ⟨its, rv, p', hz⟩ := I1.tuple hq
    have pT : s1.heap.IsTuple a its.toArray := p'
    have hal : a < s1.heap.objs.size := by obtain ⟨_, q, _⟩ := pT; exact Heap.lt_size q
    refine call_enumT pT fun h' he hit hk => wpAny_pyIter_enum he ?_
    have I2 : Inv X pins σ H1 { s1 with heap := h' } := I1.kept (t' := s1.toks) hk
    refine ⟨s1.heap.objs.size + 1, [s1.heap.objs.size + 1, s1.heap.objs.size], _, _, H1, rfl, I2,
      turn_enumT a (s1.heap.objs.size + 1) s1.heap.objs.size,
      ⟨⟨.none, he⟩, hit, Nat.succ_ne_self _, Nat.ne_of_lt hal, Nat.ne_of_gt (Nat.lt_succ_of_lt hal)⟩, fun b hb => ?_, q⟩
    have hle : s1.heap.objs.size ≤ b := by
      have e' : b = s1.heap.objs.size + 1 ∨ b = s1.heap.objs.size := by simpa using hb
      rcases e' with z | z
      · rw [z]; exact Nat.le_succ _
      · rw [z]; exact Nat.le_refl _
    exact I1.fpOk hle (I1.hok.fresh hle)
end Lk

set_option Elab.async false
set_option maxRecDepth 100000
set_option maxHeartbeats 1000000
namespace Lk
open PySem L2
/-! ### loops over enumerate -/
theorem for_enumT {K : PySem.W.Frag} {a : Addr} {xs : List V} {g : TG} {tb : TS} {D : Ends} {σ : St} {H : Hp} (Pv : Nat → St → Hp → Prop) (h0 : Pv 0 σ H) (hl : ∀ i σ H, Pv i σ H → SqT K H a xs)
    (hs : ∀ i x σ H T, xs[i]? = some x → Pv i σ H → H T = none → g (.ref T) σ (upd H T (.tup [.int (i : Nat), x])) fun σ2 H2 => tb { D with nx := Pv (i + 1), ct := Pv (i + 1), bk := D.nx } σ2 H2)
    (hd : ∀ σ H, Pv xs.length σ H → D.nx σ H) :
    ∃ W : Nat → Nat → St → Hp → Prop, (∃ m, W 0 m σ H) ∧ ∀ i m σ H, W i m σ H →
      ((ItE K a).stop i H ∧ D.nx σ H) ∨ ((ItE K a).go i H ∧ ∃ N : St → Hp → Prop, (∀ σ' H', N σ' H' → ∃ m', m' < m ∧ W (i + 1) m' σ' H') ∧ ∀ x H', (ItE K a).yld i H x H' → g x σ H' fun σ2 H2 => tb { D with nx := N, ct := N, bk := D.nx } σ2 H2) := by
  refine ⟨fun i m σ H => m = xs.length - i ∧ i ≤ xs.length ∧ Pv i σ H, ⟨xs.length, by simp, Nat.zero_le _, h0⟩, ?_⟩
  rintro i m σ H ⟨rfl, hi, p⟩
  have q := hl i σ H p
  by_cases h : i < xs.length
  · refine .inr ⟨⟨xs, xs[i], q, List.getElem?_eq_getElem h⟩, Pv (i + 1), fun σ' H' n => ⟨xs.length - (i + 1), by omega, rfl, by omega, n⟩, ?_⟩
    rintro x H' ⟨T, y, rfl, hT, rfl, hy⟩
    exact hs i y σ H T (hy xs q) p hT
  · have e : i = xs.length := by omega
    subst e
    exact .inl ⟨⟨xs, q, Nat.le_refl _⟩, hd σ H p⟩
theorem for_enumL {K : PySem.W.Frag} {a : Addr} {xs : List V} {g : TG} {tb : TS} {D : Ends} {σ : St} {H : Hp} (Pv : Nat → St → Hp → Prop) (h0 : Pv 0 σ H) (hl : ∀ i σ H, Pv i σ H → SqL K H a xs)
    (hs : ∀ i x σ H T, xs[i]? = some x → Pv i σ H → H T = none → g (.ref T) σ (upd H T (.tup [.int (i : Nat), x])) fun σ2 H2 => tb { D with nx := Pv (i + 1), ct := Pv (i + 1), bk := D.nx } σ2 H2)
    (hd : ∀ σ H, Pv xs.length σ H → D.nx σ H) :
    ∃ W : Nat → Nat → St → Hp → Prop, (∃ m, W 0 m σ H) ∧ ∀ i m σ H, W i m σ H →
      ((Ite K a).stop i H ∧ D.nx σ H) ∨ ((Ite K a).go i H ∧ ∃ N : St → Hp → Prop, (∀ σ' H', N σ' H' → ∃ m', m' < m ∧ W (i + 1) m' σ' H') ∧ ∀ x H', (Ite K a).yld i H x H' → g x σ H' fun σ2 H2 => tb { D with nx := N, ct := N, bk := D.nx } σ2 H2) := by
  refine ⟨fun i m σ H => m = xs.length - i ∧ i ≤ xs.length ∧ Pv i σ H, ⟨xs.length, by simp, Nat.zero_le _, h0⟩, ?_⟩
  rintro i m σ H ⟨rfl, hi, p⟩
  have q := hl i σ H p
  by_cases h : i < xs.length
  · refine .inr ⟨⟨xs, xs[i], q, List.getElem?_eq_getElem h⟩, Pv (i + 1), fun σ' H' n => ⟨xs.length - (i + 1), by omega, rfl, by omega, n⟩, ?_⟩
    rintro x H' ⟨T, y, rfl, hT, rfl, hy⟩
    exact hs i y σ H T (hy xs q) p hT
  · have e : i = xs.length := by omega
    subst e
    exact .inl ⟨⟨xs, q, Nat.le_refl _⟩, hd σ H p⟩

/-! ### any values, as data -/
mutual
inductive Dv (H : Hp) : V → PyData → Prop
  | non : Dv H .non .none
  | bl (b : Bool) : Dv H (.bl b) (.bool b)
  | int (i : Int) : Dv H (.int i) (.int i)
  | str (x : Str) : Dv H (.str x) (.str x)
  | lst {a : Addr} {xs : List V} {ds : List PyData} : H a = some (.lst xs) → DvAll H xs ds → Dv H (.ref a) (.list ds)
  | tup {a : Addr} {xs : List V} {ds : List PyData} : H a = some (.tup xs) → DvAll H xs ds → Dv H (.ref a) (.tuple ds)
  | dct {a : Addr} : H a = some (.dK []) → Dv H (.ref a) (.dict [])
inductive DvAll (H : Hp) : List V → List PyData → Prop
  | nil : DvAll H [] []
  | cons {v : V} {vs : List V} {d : PyData} {ds : List PyData} : Dv H v d → DvAll H vs ds → DvAll H (v :: vs) (d :: ds)
end
mutual
theorem Dv.kp {S : Addr → Prop} {H H' : Hp} (hS : ∀ a, S a → H a = none) (k : KP S H H') : ∀ {v : V} {d : PyData}, Dv H v d → Dv H' v d
  | _, _, .non => .non
  | _, _, .bl b => .bl b
  | _, _, .int i => .int i
  | _, _, .str x => .str x
  | _, _, .lst h t => .lst (k.get (fun s => by rw [hS _ s] at h; cases h) h) (DvAll.kp hS k t)
  | _, _, .tup h t => .tup (k.get (fun s => by rw [hS _ s] at h; cases h) h) (DvAll.kp hS k t)
  | _, _, .dct h => .dct (k.get (fun s => by rw [hS _ s] at h; cases h) h)
theorem DvAll.kp {S : Addr → Prop} {H H' : Hp} (hS : ∀ a, S a → H a = none) (k : KP S H H') : ∀ {vs : List V} {ds : List PyData}, DvAll H vs ds → DvAll H' vs ds
  | _, _, .nil => .nil
  | _, _, .cons h t => .cons (Dv.kp hS k h) (DvAll.kp hS k t)
end
theorem Dv.same {H H' : Hp} {v : V} {d : PyData} (k : Same H H') (h : Dv H v d) : Dv H' v d := h.kp (S := fun _ => False) (fun _ x => x.elim) (KP.same k)
theorem DvAll.same {H H' : Hp} {v : List V} {d : List PyData} (k : Same H H') (h : DvAll H v d) : DvAll H' v d := h.kp (S := fun _ => False) (fun _ x => x.elim) (KP.same k)
theorem DvAll.len {H : Hp} : ∀ {vs : List V} {ds : List PyData}, DvAll H vs ds → vs.length = ds.length
  | _, _, .nil => rfl
  | _, _, .cons _ t => congrArg (· + 1) t.len
theorem DvAll.get {H : Hp} : ∀ {vs : List V} {ds : List PyData} {i : Nat} {v : V}, DvAll H vs ds → vs[i]? = some v → ∃ d, ds[i]? = some d ∧ Dv H v d
  | _, _, i, v, .nil, h => by simp at h
  | _, _, 0, v, .cons h _, e => ⟨_, rfl, by have e' := Option.some.inj e; rw [← e']; exact h⟩
  | _, _, i + 1, v, .cons _ t, e => t.get (i := i) e
def tyD : PyData → String
  | .none => "NoneType"
  | .bool _ => "bool"
  | .int _ => "int"
  | .str _ => "str"
  | .list _ => "list"
  | .tuple _ => "tuple"
  | .dict _ => "dict"
theorem Dv.ty {K : PySem.W.Frag} {H : Hp} {v : V} {d : PyData} : Dv H v d → TyX K H v (.type (tyD d))
  | .non => .base .non
  | .bl b => .base (.bl b)
  | .int i => .base (.int i)
  | .str x => .base (.str x)
  | .lst h _ => .base (.lst h)
  | .tup h _ => .base (.tup h)
  | .dct h => .base (.dK h)
/-- an integer that is no bool; from 0 on; below a limit; a sequence; an entry -/
def isI : PyData → Bool
  | .int _ => true
  | _ => false
def isN : PyData → Bool
  | .int i => decide (0 ≤ i)
  | _ => false
def isB (n : Int) : PyData → Bool
  | .int i => decide (0 ≤ i) && decide (i < n)
  | _ => false
def isS : PyData → Bool
  | .list _ | .tuple _ => true
  | _ => false
def itemsD : PyData → List PyData
  | .list ds | .tuple ds => ds
  | _ => []
def isE (A n : Int) (d : PyData) : Bool := isS d && (decide (((itemsD d).length : Int) = A) && (itemsD d).all (isB n))
abbrev s_is_integer : Stmt := top 6
abbrev N_is_integer : List Str := ["value"]
abbrev P_is_integer : List Str := ["value"]
theorem sc_is_integer : FnScope N_is_integer P_is_integer (defScope s_is_integer) := ⟨rfl, rfl, rfl, by decide +kernel, rfl, by decide +kernel, by decide +kernel⟩
abbrev s_is_number : Stmt := top 7
abbrev N_is_number : List Str := ["value"]
abbrev P_is_number : List Str := ["value"]
theorem sc_is_number : FnScope N_is_number P_is_number (defScope s_is_number) := ⟨rfl, rfl, rfl, by decide +kernel, rfl, by decide +kernel, by decide +kernel⟩
abbrev s_is_below : Stmt := top 8
abbrev N_is_below : List Str := ["value", "limit"]
abbrev P_is_below : List Str := ["value", "limit"]
theorem sc_is_below : FnScope N_is_below P_is_below (defScope s_is_below) := ⟨rfl, rfl, rfl, by decide +kernel, rfl, by decide +kernel, by decide +kernel⟩
abbrev s_is_sequence : Stmt := top 9
abbrev N_is_sequence : List Str := ["value"]
abbrev P_is_sequence : List Str := ["value"]
theorem sc_is_sequence : FnScope N_is_sequence P_is_sequence (defScope s_is_sequence) := ⟨rfl, rfl, rfl, by decide +kernel, rfl, by decide +kernel, by decide +kernel⟩
abbrev s_are_below : Stmt := top 10
abbrev N_are_below : List Str := ["values", "limit", "value"]
abbrev P_are_below : List Str := ["values", "limit"]
theorem sc_are_below : FnScope N_are_below P_are_below (defScope s_are_below) := ⟨rfl, rfl, rfl, by decide +kernel, rfl, by decide +kernel, by decide +kernel⟩
abbrev s_is_entry : Stmt := top 13
abbrev N_is_entry : List Str := ["entry", "commands", "states"]
abbrev P_is_entry : List Str := ["entry", "commands", "states"]
theorem sc_is_entry : FnScope N_is_entry P_is_entry (defScope s_is_entry) := ⟨rfl, rfl, rfl, by decide +kernel, rfl, by decide +kernel, by decide +kernel⟩
/-- a test of one value -/
def spT1 (t : PyData → Bool) : Sp := fun vs H Q _ => ∃ (x : V) (d : PyData), vs = [x] ∧ Dv H x d ∧ ∀ H', Same H H' → Q (.bl (t d)) H'
def spBelow : Sp := fun vs H Q _ => ∃ (x : V) (d : PyData) (n : Int), vs = [x, .int n] ∧ Dv H x d ∧ Q (.bl (isB n d)) H
def spAre : Sp := fun vs H Q _ => ∃ (x : V) (d : PyData) (n : Int), vs = [x, .int n] ∧ Dv H x d ∧ isS d = true ∧ (itemsD d).length ≤ 100000 ∧ ∀ H', Same H H' → Q (.bl ((itemsD d).all (isB n))) H'
def spEntry : Sp := fun vs H Q _ => ∃ (x : V) (d : PyData) (A n : Int), vs = [x, .int A, .int n] ∧ Dv H x d ∧ (itemsD d).length ≤ 100000 ∧ ∀ H', Same H H' → Q (.bl (isE A n d)) H'
theorem Same.new {H : Hp} {p : Addr} {o : HO} (h : H p = none) : Same H (upd H p o) := (KP.new (S := fun _ => False) h).toSame
section
variable {P : Program} {w : World} {K : PySem.W.Frag} {mg : Str → Option Value} {base : Heap}
theorem ok_integer {f : Addr} {fd : FuncData} (A0 : Df K mg "is_integer" s_is_integer f fd P_is_integer) (T : Txt mg) : FnOk P w K mg base CX0 1 f fd P_is_integer (spT1 isI) := by
  refine A0.F.ok sc_is_integer (fun vs H Q E h => ?_) (fun cdv A outer s H vs Q E hr h => ?_)
  · obtain ⟨x, d, rfl, _⟩ := h
    rfl
  · obtain ⟨x, d, rfl, D, k⟩ := h
    refine ⟨_, (pss_one (ps_ret (pe_and (pe_callB call_isi (by rfl) T.isinstance PyProof.Rows.boot_isinstance (pa_cons (pv 0) (pa_cons (pe_bltn (v := .ty "int") (by rfl) T.int (by decide +kernel) rfl) pa_nil)))
      (pe_one (pe_not (pe_callB call_isi (by rfl) T.isinstance PyProof.Rows.boot_isinstance (pa_cons (pv 0) (pa_cons (pe_bltn (v := .ty "bool") (by rfl) T.bool (by decide +kernel) rfl) pa_nil)))))))), ?_⟩
    have key : ∀ (b1 b2 : Bool), PySem.W.kitOne K (.type (tyD d)) (.type "int") = some b1 → PySem.W.kitOne K (.type (tyD d)) (.type "bool") = some b2 → (b1 && !b2) = isI d → tRet (tAndV (tCB (rIsi K) (tCons (tVar 0) (tCons (tC (.ty "int")) tNil))) (tNotV (tCB (rIsi K) (tCons (tVar 0) (tCons (tC (.ty "bool")) tNil))))) { nx := fun _ H' => Q .non H', rt := Q } [some x] H := by
      intro b1 b2 h1 h2 h3
      refine ⟨_, rfl, x, _, _, _, b1, rfl, .ty _, D.ty, h1, b1, rfl, ?_⟩
      cases b1 with
      | false =>
        refine iteF ?_
        rw [show (false : Bool) = isI d from h3]
        exact k _ (Same.refl _)
      | true =>
        refine iteT ⟨_, rfl, x, _, _, _, b2, rfl, .ty _, D.ty, h2, b2, rfl, ?_⟩
        rw [show (!b2) = isI d by rw [← h3, Bool.true_and]]
        exact k _ (Same.refl _)
    cases d with
    | none => exact key false false (kit_ty (a := "NoneType") (by decide +kernel)) (kit_ty (a := "NoneType") (by decide +kernel)) rfl
    | bool b => exact key true true (kit_ty (a := "bool") (by decide +kernel)) (kit_ty (a := "bool") (by decide +kernel)) rfl
    | int i => exact key true false (kit_ty (a := "int") (by decide +kernel)) (kit_ty (a := "int") (by decide +kernel)) rfl
    | str x => exact key false false (kit_ty (a := "str") (by decide +kernel)) (kit_ty (a := "str") (by decide +kernel)) rfl
    | list x => exact key false false (kit_ty (a := "list") (by decide +kernel)) (kit_ty (a := "list") (by decide +kernel)) rfl
    | tuple x => exact key false false (kit_ty (a := "tuple") (by decide +kernel)) (kit_ty (a := "tuple") (by decide +kernel)) rfl
    | dict x => exact key false false (kit_ty (a := "dict") (by decide +kernel)) (kit_ty (a := "dict") (by decide +kernel)) rfl
theorem ok_sequence {f : Addr} {fd : FuncData} (A0 : Df K mg "is_sequence" s_is_sequence f fd P_is_sequence) (T : Txt mg) : FnOk P w K mg base CX0 1 f fd P_is_sequence (spT1 isS) := by
  refine A0.F.ok sc_is_sequence (fun vs H Q E h => ?_) (fun cdv A outer s H vs Q E hr h => ?_)
  · obtain ⟨x, d, rfl, _⟩ := h
    rfl
  · obtain ⟨x, d, rfl, D, k⟩ := h
    refine ⟨_, (pss_one (ps_ret (pe_callB call_isiT (by rfl) T.isinstance PyProof.Rows.boot_isinstance (pa_cons (pv 0) (pa_cons (pe_tup (pa_cons (pe_bltn (v := .ty "list") (by rfl) T.list (by decide +kernel) rfl) (pa_cons (pe_bltn (v := .ty "tuple") (by rfl) T.tuple (by decide +kernel) rfl) pa_nil))) pa_nil))))), ?_⟩
    have key : ∀ (b1 b2 : Bool), PySem.W.kitOne K (.type (tyD d)) (.type "list") = some b1 → PySem.W.kitOne K (.type (tyD d)) (.type "tuple") = some b2 → (b1 || b2) = isS d → tRet (tCB (rIsiT K) (tCons (tVar 0) (tCons (tTup (tCons (tC (.ty "list")) (tCons (tC (.ty "tuple")) tNil))) tNil))) { nx := fun _ H' => Q .non H', rt := Q } [some x] H := by
      intro b1 b2 h1 h2 h3
      refine ⟨_, rfl, by show 2 ≤ sizeLine; decide, fun p hp => ⟨x, p, _, _, [.type "list", .type "tuple"], (b1 || b2), rfl, upd_same, .cons (.ty _) (.cons (.ty _) .nil), (D.same (Same.new hp)).ty, ?_, ?_⟩⟩
      · refine kitAny_cons h1 (fun e => ?_) (fun e => by rw [e]; rfl)
        refine kitAny_cons h2 (fun e2 => by rw [e, e2]; exact kitAny_nil) (fun e2 => by rw [e2, Bool.or_true])
      · rw [h3]
        exact k _ (Same.new hp)
    cases d with
    | none => exact key false false (kit_ty (a := "NoneType") (by decide +kernel)) (kit_ty (a := "NoneType") (by decide +kernel)) rfl
    | bool b => exact key false false (kit_ty (a := "bool") (by decide +kernel)) (kit_ty (a := "bool") (by decide +kernel)) rfl
    | int i => exact key false false (kit_ty (a := "int") (by decide +kernel)) (kit_ty (a := "int") (by decide +kernel)) rfl
    | str x => exact key false false (kit_ty (a := "str") (by decide +kernel)) (kit_ty (a := "str") (by decide +kernel)) rfl
    | list x => exact key true false (kit_ty (a := "list") (by decide +kernel)) (kit_ty (a := "list") (by decide +kernel)) rfl
    | tuple x => exact key false true (kit_ty (a := "tuple") (by decide +kernel)) (kit_ty (a := "tuple") (by decide +kernel)) rfl
    | dict x => exact key false false (kit_ty (a := "dict") (by decide +kernel)) (kit_ty (a := "dict") (by decide +kernel)) rfl
end
end Lk

set_option Elab.async false
set_option maxRecDepth 100000
set_option maxHeartbeats 1000000
namespace Lk
open PySem L2
def isBV (n : Int) : V → Bool
  | .int i => decide (0 ≤ i) && decide (i < n)
  | _ => false
theorem Dv.isBV {H : Hp} {x : V} {d : PyData} {n : Int} (h : Dv H x d) : Lk.isBV n x = isB n d := by
  cases h <;> rfl
theorem DvAll.all {H : Hp} {n : Int} : ∀ {xs : List V} {ds : List PyData}, DvAll H xs ds → (xs.map (Lk.isBV n)).all id = ds.all (isB n)
  | _, _, .nil => rfl
  | _, _, .cons h t => by
    rw [List.map_cons, List.all_cons, List.all_cons, DvAll.all t, h.isBV]
    rfl
def spBelowS : Sp := fun vs H Q _ => ∃ (x : V) (d : PyData) (n : Int), vs = [x, .int n] ∧ Dv H x d ∧ ∀ H', Same H H' → Q (.bl (isB n d)) H'
section
variable {P : Program} {w : World} {K : PySem.W.Frag} {mg : Str → Option Value} {base : Heap}
theorem ok_number {f fi : Addr} {fd fdi : FuncData} (A0 : Df K mg "is_number" s_is_number f fd P_is_number) (d_is_integer : Df K mg "is_integer" s_is_integer fi fdi P_is_integer) (T : Txt mg) : FnOk P w K mg base CX0 2 f fd P_is_number (spT1 isN) := by
  have G_is_integer : FnOk P w K mg base CX0 1 fi fdi P_is_integer (spT1 isI) := ok_integer d_is_integer T
  refine A0.F.ok sc_is_number (fun vs H Q E h => ?_) (fun cdv A outer s H vs Q E hr h => ?_)
  · obtain ⟨x, d, rfl, _⟩ := h
    rfl
  · obtain ⟨x, d, rfl, D, k⟩ := h
    refine ⟨_, (pss_one (ps_ret (pe_and (pe_call G_is_integer (hr.mono (by decide)) rfl d_is_integer.g d_is_integer.F.kp d_is_integer.b .nil pass0 (pa_cons (pv 0) pa_nil)) (pe_one (pe_cmpR op_ge (pv 0) pe_int (nomark _)))))), ?_⟩
    refine ⟨_, rfl, x, d, rfl, D, fun H1 S1 => ⟨isI d, rfl, ?_⟩⟩
    cases D with
    | int i => exact iteT ⟨_, rfl, _, _, rfl, rfl, k _ S1⟩
    | non => exact iteF (k _ S1)
    | bl b => exact iteF (k _ S1)
    | str b => exact iteF (k _ S1)
    | lst _ _ => exact iteF (k _ S1)
    | tup _ _ => exact iteF (k _ S1)
    | dct _ => exact iteF (k _ S1)
theorem ok_below {f fi fn : Addr} {fd fdi fdn : FuncData} (A0 : Df K mg "is_below" s_is_below f fd P_is_below) (d_is_number : Df K mg "is_number" s_is_number fn fdn P_is_number) (d_is_integer : Df K mg "is_integer" s_is_integer fi fdi P_is_integer) (T : Txt mg) : FnOk P w K mg base CX0 3 f fd P_is_below spBelowS := by
  have G_is_number : FnOk P w K mg base CX0 2 fn fdn P_is_number (spT1 isN) := ok_number d_is_number d_is_integer T
  refine A0.F.ok sc_is_below (fun vs H Q E h => ?_) (fun cdv A outer s H vs Q E hr h => ?_)
  · obtain ⟨x, d, n, rfl, _⟩ := h
    rfl
  · obtain ⟨x, d, n, rfl, D, k⟩ := h
    refine ⟨_, (pss_one (ps_ret (pe_and (pe_call G_is_number (hr.mono (by decide)) rfl d_is_number.g d_is_number.F.kp d_is_number.b .nil pass0 (pa_cons (pv 0) pa_nil)) (pe_one (pe_cmpR op_lt (pv 0) (pv 1) (nomark _)))))), ?_⟩
    refine ⟨_, rfl, x, d, rfl, D, fun H1 S1 => ⟨isN d, rfl, ?_⟩⟩
    cases D with
    | int i =>
      show (if decide (0 ≤ i) = true then _ else _)
      have k' : Q (.bl (decide (0 ≤ i) && decide (i < n))) H1 := k H1 S1
      by_cases h0 : 0 ≤ i
      · rw [if_pos (decide_eq_true h0)]
        refine ⟨_, rfl, _, rfl, _, _, rfl, rfl, ?_⟩
        rw [decide_eq_true h0, Bool.true_and] at k'
        exact k'
      · rw [decide_eq_false h0] at k' ⊢
        exact iteF k'
    | non => exact iteF (k _ S1)
    | bl b => exact iteF (k _ S1)
    | str b => exact iteF (k _ S1)
    | lst _ _ => exact iteF (k _ S1)
    | tup _ _ => exact iteF (k _ S1)
    | dct _ => exact iteF (k _ S1)
theorem ok_are {f fi fn fb : Addr} {fd fdi fdn fdb : FuncData} (A0 : Df K mg "are_below" s_are_below f fd P_are_below) (d_is_below : Df K mg "is_below" s_is_below fb fdb P_is_below) (d_is_number : Df K mg "is_number" s_is_number fn fdn P_is_number) (d_is_integer : Df K mg "is_integer" s_is_integer fi fdi P_is_integer) (T : Txt mg) : FnOk P w K mg base CX0 4 f fd P_are_below spAre := by
  have G_is_below : FnOk P w K mg base CX0 3 fb fdb P_is_below spBelowS := ok_below d_is_below d_is_number d_is_integer T
  refine A0.F.ok sc_are_below (fun vs H Q E h => ?_) (fun cdv A outer s H vs Q E hr h => ?_)
  · obtain ⟨x, d, n, rfl, _⟩ := h
    rfl
  · obtain ⟨x, d, n, rfl, D, hS, hl, k⟩ := h
    have fin : ∀ (xs : List V) (ds : List PyData) (H' : Hp) (q : Addr), DvAll H xs ds → itemsD d = ds → Same H H' → H' q = some (.lst (xs.map fun x => V.bl (isBV n x))) → rAll K [.ref q] H' Q := fun xs ds H' q h1 h2 h3 h4 => by
      refine ⟨q, xs.map (isBV n), rfl, SqL.of ?_, ?_⟩
      · rw [h4, List.map_map]
        rfl
      · rw [h1.all, ← h2]
        exact k _ h3
    have el : ∀ (xs : List V) (ds : List PyData) (y : V) (H2 : Hp) (Q2 : VK) (x0 : V), DvAll H xs ds → y ∈ xs → Same H H2 → (∀ H4, Same H2 H4 → Q2 (V.bl (isBV n y)) H4) → tCall spBelowS [] E0 (tCons (tVar 2) (tCons (tVar 1) tNil)) [some x0, some (.int n), some y] H2 Q2 := fun xs ds y H2 Q2 x0 h1 h2 h3 h4 => by
      obtain ⟨i, hi⟩ := List.getElem?_of_mem h2
      obtain ⟨e, _, De⟩ := h1.get hi
      refine ⟨_, rfl, _, rfl, y, e, n, rfl, De.same h3, fun H3 S3 => ?_⟩
      rw [← De.isBV]
      exact h4 _ S3
    cases D with
    | @lst a xs ds ha hx =>
      refine ⟨_, (pss_one (ps_ret (pe_callB (cr_all rfl) (by rfl) T.all PyProof.Rows.boot_all (pa_cons (pe_lc (own := [("value", 2)]) (g := gName 2) (tt := tYes) rfl sc_are_below.nd (pi_list (pv 0)) (blkOk_by (N := N_are_below) (sc := defScope s_are_below) (by decide +kernel)) (fun _ _ _ _ _ => (pg_name (i := 2) sc_are_below.nd rfl (Or.inl rfl))) (fun _ _ _ _ _ => pts_nil) (fun _ _ _ _ _ => (pe_call G_is_below (hr.mono (by decide)) rfl d_is_below.g d_is_below.F.kp d_is_below.b .nil pass0 (pa_cons (pv 2) (pa_cons (pv 1) pa_nil))))) pa_nil)))), ?_⟩
      refine ⟨_, rfl, a, rfl, ⟨_, SqL.of ha⟩, fun q hq => ?_⟩
      refine lcPL (K := K) (fun x => V.bl (isBV n x)) hq (by rw [hx.len]; exact Nat.le_trans hl (by decide)) (SqL.of ha) (fun y hy H2 S2 Q2 kQ => el xs ds y H2 Q2 _ hx hy S2 kQ) (fun H2 e2 S2 => fin xs ds H2 q hx rfl S2 e2)
    | @tup a xs ds ha hx =>
      refine ⟨_, (pss_one (ps_ret (pe_callB (cr_all rfl) (by rfl) T.all PyProof.Rows.boot_all (pa_cons (pe_lc (own := [("value", 2)]) (g := gName 2) (tt := tYes) rfl sc_are_below.nd (pi_tup (pv 0)) (blkOk_by (N := N_are_below) (sc := defScope s_are_below) (by decide +kernel)) (fun _ _ _ _ _ => (pg_name (i := 2) sc_are_below.nd rfl (Or.inl rfl))) (fun _ _ _ _ _ => pts_nil) (fun _ _ _ _ _ => (pe_call G_is_below (hr.mono (by decide)) rfl d_is_below.g d_is_below.F.kp d_is_below.b .nil pass0 (pa_cons (pv 2) (pa_cons (pv 1) pa_nil))))) pa_nil)))), ?_⟩
      refine ⟨_, rfl, a, rfl, ⟨_, SqT.of ha⟩, fun q hq => ?_⟩
      refine lcPT (K := K) (fun x => V.bl (isBV n x)) hq (by rw [hx.len]; exact Nat.le_trans hl (by decide)) (SqT.of ha) (fun y hy H2 S2 Q2 kQ => el xs ds y H2 Q2 _ hx hy S2 kQ) (fun H2 e2 S2 => fin xs ds H2 q hx rfl S2 e2)
    | non => cases hS
    | bl b => cases hS
    | int i => cases hS
    | str z => cases hS
    | dct _ => cases hS
theorem ok_entry {f fi fn fb fs fr : Addr} {fd fdi fdn fdb fds fdr : FuncData} (A0 : Df K mg "_is_entry" s_is_entry f fd P_is_entry) (d_is_sequence : Df K mg "is_sequence" s_is_sequence fs fds P_is_sequence) (d_are_below : Df K mg "are_below" s_are_below fr fdr P_are_below) (d_is_below : Df K mg "is_below" s_is_below fb fdb P_is_below) (d_is_number : Df K mg "is_number" s_is_number fn fdn P_is_number) (d_is_integer : Df K mg "is_integer" s_is_integer fi fdi P_is_integer) (T : Txt mg) : FnOk P w K mg base CX0 5 f fd P_is_entry spEntry := by
  have G_is_sequence : FnOk P w K mg base CX0 1 fs fds P_is_sequence (spT1 isS) := ok_sequence d_is_sequence T
  have G_are_below : FnOk P w K mg base CX0 4 fr fdr P_are_below spAre := ok_are d_are_below d_is_below d_is_number d_is_integer T
  refine A0.F.ok sc_is_entry (fun vs H Q E h => ?_) (fun cdv A outer s H vs Q E hr h => ?_)
  · obtain ⟨x, d, A, n, rfl, _⟩ := h
    rfl
  · obtain ⟨x, d, A, n, rfl, D, hl, k⟩ := h
    refine ⟨_, (pss_one (ps_ret (pe_and (pe_call G_is_sequence (hr.mono (by decide)) rfl d_is_sequence.g d_is_sequence.F.kp d_is_sequence.b .nil pass0 (pa_cons (pv 0) pa_nil)) (pe_and (pe_cmpR op_eq (pe_callB call_len_seq (by rfl) T.len PySem.boot_len (pa_cons (pv 0) pa_nil)) (pv 1) (nomark _)) (pe_one (pe_call G_are_below (hr.mono (by decide)) rfl d_are_below.g d_are_below.F.kp d_are_below.b .nil pass0 (pa_cons (pv 0) (pa_cons (pv 2) pa_nil)))))))), ?_⟩
    refine ⟨_, rfl, x, d, rfl, D, fun H1 S1 => ⟨isS d, rfl, ?_⟩⟩
    have D1 := D.same S1
    have main : ∀ (a : Addr) (xs : List V) (ds : List PyData), x = .ref a → (SqL K H1 a xs ∨ SqT K H1 a xs) → itemsD d = ds → xs.length = ds.length → isS d = true →
        tAndV (tOp rEq (tCB (rLn K) (tCons (tVar 0) tNil)) (tVar 1)) (tCall spAre [] E0 (tCons (tVar 0) (tCons (tVar 2) tNil))) [some x, some (.int A), some (.int n)] H1 Q := by
      intro a xs ds ex hx hi hle hs
      refine ⟨_, rfl, a, xs, by rw [ex], hx, _, rfl, rfl, _, rfl, ?_⟩
      have e : (decide (V.int ((xs.length : Nat) : Int) = V.int A)) = decide ((ds.length : Int) = A) := by
        rw [hle]
        by_cases q : (ds.length : Int) = A
        · rw [decide_eq_true q, q]
          exact decide_eq_true rfl
        · rw [decide_eq_false q]
          exact decide_eq_false fun z => q (by injection z)
      show (if decide (V.int ((xs.length : Nat) : Int) = V.int A) = true then _ else _)
      rw [e]
      have kk : ∀ H', Same H1 H' → Q (.bl (decide ((ds.length : Int) = A) && ds.all (isB n))) H' := fun H' S' => by
        have z := k H' (S1.trans S')
        unfold isE at z
        rw [hs, Bool.true_and, hi] at z
        exact z
      by_cases q : (ds.length : Int) = A
      · rw [decide_eq_true q] at kk ⊢
        refine iteT ⟨_, rfl, _, rfl, x, d, n, rfl, D1, hs, hl, fun H2 S2 => ?_⟩
        rw [hi]
        have z := kk H2 S2
        rw [Bool.true_and] at z
        exact z
      · rw [decide_eq_false q] at kk ⊢
        exact iteF (kk H1 (Same.refl _))
    cases D1 with
    | @lst a xs ds ha hx => exact iteT (main a xs ds rfl (.inl (SqL.of ha)) rfl hx.len rfl)
    | @tup a xs ds ha hx => exact iteT (main a xs ds rfl (.inr (SqT.of ha)) rfl hx.len rfl)
    | non => exact iteF (k _ S1)
    | bl b => exact iteF (k _ S1)
    | int i => exact iteF (k _ S1)
    | str z => exact iteF (k _ S1)
    | dct _ => exact iteF (k _ S1)
end
end Lk

set_option Elab.async false
set_option linter.all false
set_option maxRecDepth 100000
set_option maxHeartbeats 2000000
namespace PySem
namespace ErrX
open PySem.W PySem.Calls PyProof.Rows PySem.HandSPX
/-! ### the text of __init__ -/
def iA (p1 p2 : Pos) : Arguments := { posonlyargs := [], args := [{ arg := "self", annotation := none, pos := p1 }, { arg := "at", annotation := none, pos := p2 }], vararg := none, kwonlyargs := [], kw_defaults := [], kwarg := none, defaults := [] }
def iB (q1 q2 q3 q4 : Pos) : List Stmt := [.Assign [.Attribute (.Name "self" q1) "at" q2] (.Name "at" q3) q4]
def iS : Scope := { kind := .function, names := [(PySem.Str.ofString "self", .local), (PySem.Str.ofString "at", .local)], isGenerator := false, isCoroutine := false, more := [] }
/-- what the written part says of Low, at C, and of its __init__, at fI -/
structure ErrTxt (K : Frag) (mg : Str → Option Value) (cn : Str) (qn : Str) (C fI : Addr) : Prop where
  gC : mg cn = some (.ref C)
  cls : ∃ nm q N bs bm sn sub ab col dd k0 k1 k2 k3 k5, K.lookup C = some (excClassObj nm q C N bs bm true sn sub ab col dd k0 k1 k2 k3 k5 "ValueError.__new__") ∧ refsVE bm = true
  sa : findIn K (.ref C) "__setattr__" = some (some (.builtin "object.__setattr__"))
  ga : findIn K (.ref C) "__getattribute__" = some (some (.builtin "BaseException.__getattribute__"))
  gg : findIn K (.ref C) "__getattr__" = some none
  noN : findIn K (.ref C) "at" = some none
  iC : findIn K (.ref C) "__init__" = some (some (.ref fI))
  tC : typeIn K (.ref fI) = some (.type "function")
  kC : keepIn K (.ref C) = true
  exC : subIn K (.ref C) (.type "BaseException") = some true
  tyC : typeIn K (.ref C) = some (.type "type")
  hdC : hasDictIn K C = true
  te : exmOne K (.ref C) (.ref C) = some true
  fn : ∃ (oc : Value) (od : Option Addr) (doc pm : Value) (an : Option Addr) (cdv ct : Value) (osl : Array (Option Value)) (p1 p2 q1 q2 q3 q4 : Pos),
    K.lookup fI = some ⟨oc, od, .func (fnOf "__init__" qn (iA p1 p2) (iB q1 q2 q3 q4) iS .none .none doc pm an cdv ct), osl⟩ ∧ codeIn K cdv qn = true
theorem one_size (v : Value) : [v].length ≤ sizeLine := by
  rw [sizeLine_eq]
  exact (by decide : 1 ≤ 16777216)
theorem kept_but {K : Frag} {h h' : Heap} {x : Addr} (X : K.In h) (hx : K.lookup x = none) (k : ∀ b o, b ≠ x → h.get? b = some o → h'.get? b = some o) : K.In h' := fun a o e =>
  k a o (fun z => by rw [z, hx] at e; cases e) (X a o e)
theorem ldC {M : Model} {s : Shared} {name : Str} {scope : Scope} {L a : Addr} {cd : Value} {m : Str → Option Value} {x : Str} {pos : Pos} {v : Value} {Q : Value → Shared → Prop} {A : Around} {E : Value → Shared → Prop} (hn : s.heap.Ns L m) (hv : m x = some v) (h : Q v s)
    (hk : scope.kind = .function := by rfl) (hl : (envOfC name scope L a cd).kindOf x = some .local := by rfl) (hd : (x == ("__debug__" : Str)) = false := by decide) :
    wpAny M A (eval (.Name x pos) (envOfC name scope L a cd)) Q E s := wpAny_Name (wpAny_loadName_local hk hl hn hv h) hd
/-- what __init__ leaves of a fresh exception at x -/
structure InitEnd (h h' : Heap) (x C dx t1 : Addr) (v : Value) : Prop where
  keep : ∀ b o, b ≠ x → h.get? b = some o → h'.get? b = some o
  obj : h'.get? x = some { cls := .ref C, dict := some dx, data := .fields #[.ref t1, .none, .none, .none, .bool false, .none] }
  dbig : h.objs.size ≤ dx
  dne : dx ≠ x
  ns : h'.Ns1 dx (fun y => if y = "at" then some v else none)
/-- a made Low -/
structure OwnMade (h h' : Heap) (e C d : Addr) (v : Value) : Prop where
  keep : ∀ b o, h.get? b = some o → h'.get? b = some o
  new : h.objs.size ≤ e
  obj : ∃ oe vs, h'.get? e = some oe ∧ oe.cls = .ref C ∧ oe.dict = some d ∧ oe.data = .fields vs ∧ vs[1]? = some .none
  dbig : h.objs.size ≤ d
  dne : d ≠ e
  ns : h'.Ns1 d (fun y => if y = "at" then some v else none)
section
variable {prog : Program} {w : World} {A : Around} {E : Value → Shared → Prop} {R : Result → Shared → Prop} {s : Shared} {K : Frag} {mg : Str → Option Value} {C fI : Addr} {cn qn : Str}
theorem low_init (T : ErrTxt K mg cn qn C fI) {x t0 : Addr} {v : Value} (X : K.In s.heap) (hlim : s.heap.NoLimit) (hx : s.heap.get? x = some (excO C t0)) (hnx : K.lookup x = none) (hroom : A.depth < recursionLimit)
    (hq : ∀ h' tk dx, InitEnd s.heap h' x C dx t0 v → R (.ok (.ret .none)) { s with heap := h', toks := tk }) :
    codeAny (model prog w) A (.call (.ref fI) ⟨[.ref x, v], []⟩) R s := by
  obtain ⟨oc, od, doc, pm, an, cdv, ct, osl, p1, p2, q1, q2, q3, q4, ho, hcd⟩ := T.fn
  obtain ⟨nm, q, N, bs, bm, sn, sub, ab, col, dd, k0, k1, k2, k3, k5, hC, hbm⟩ := T.cls
  have hcl : clsIn K C = some { name := nm, bases := bs, mro := .ref C :: bm, ns := N, qualname := q, hasDict := true, slotNames := sn, subclasses := sub, abstract := ab, collection := col, hasDel := false } := by unfold clsIn; rw [hC] <;> rfl
  refine Att.call_fn (binds := [("self", .ref x), ("at", v)]) X hlim ho hcd hroom (BindsTo.of_eq (by first | rfl | with_unfolding_all rfl)) (by first | rfl | decide | with_unfolding_all rfl) (fun s₁ IC => ?_) rfl rfl rfl
  obtain ⟨h₁, tk₁, rfl⟩ := IC.toInCall.same
  have k : ∀ b o, s.heap.get? b = some o → h₁.get? b = some o := IC.toInCall.keep
  have hn := IC.toInCall.ns
  have hxL : s.heap.objs.size ≠ x := Nat.ne_of_gt (Heap.lt_size hx)
  have X₁ : K.In h₁ := X.keeps k
  have hx₁ := k _ _ hx
  -- self.by = by
  show wpAny _ _ (execs _ _) _ _ _
  refine wpAny_execs_cons (plainObj_wpAny_Assign_Attribute ?_)
  refine ldC (v := v) hn (by first | rfl | with_unfolding_all rfl | kernel_rfl) (ldC (v := .ref x) hn (by first | rfl | with_unfolding_all rfl | kernel_rfl) ?_)
  refine set_plain X₁ (ox := excO C t0) (od := none) ⟨hx₁, rfl, rfl, trivial⟩ T.sa ?_
  refine exc_osa X₁ hx₁ hcl (show refsVE (.ref C :: bm) = true from hbm) rfl T.noN (fun h₃ tk₃ dx k₃ dn dne hx₃ hn₃ => ?_)
  show wpAny _ _ (execs _ _) _ _ _
  have z : s.heap.objs.size < h₁.objs.size := hn.lt
  exact wpAny_execs_nil (hq h₃ tk₃ dx ⟨fun b o hb e => k₃ b o hb (k b o e), hx₃, Nat.le_of_lt (Nat.lt_of_lt_of_le z dn), dne, hn₃⟩)
theorem low_made (T : ErrTxt K mg cn qn C fI) {v : Value} (X : K.In s.heap) (hlim : s.heap.NoLimit) (hroom : A.depth + 1 < recursionLimit)
    (hq : ∀ h' tk e d, OwnMade s.heap h' e C d v → R (.ok (.ret (.ref e))) { s with heap := h', toks := tk }) :
    codeAny (model prog w) A (.call (.ref C) ⟨[v], []⟩) R s := by
  obtain ⟨nm, q, N, bs, bm, sn, sub, ab, col, dd, k0, k1, k2, k3, k5, hC, hbm⟩ := T.cls
  obtain ⟨hp, g, dr, tk, os⟩ := s
  have k : ∀ b o, hp.get? b = some o → ((hp.push (kdv_tup [v])).push (excO C hp.objs.size)).get? b = some o := fun b o e => Heap.get?_push_of_some _ (Heap.get?_push_of_some _ e)
  have hget : ((hp.push (kdv_tup [v])).push (excO C hp.objs.size)).get? (hp.objs.size + 1) = some (excO C hp.objs.size) := by heap_get
  have hnx : K.lookup (hp.objs.size + 1) = none := by
    cases e : K.lookup (hp.objs.size + 1) with
    | none => rfl
    | some o =>
      have z : hp.get? (hp.objs.size + 1) = some o := X _ _ e
      exact absurd (Nat.lt_of_succ_lt (Heap.lt_size z)) (Nat.lt_irrefl _)
  refine call_own F.excBase_ValueError (fun X => refsVE_contains X bm hbm) (X _ _ hC) (looks_findIn X T.iC) (fun self => bind_fn X self T.tC) (one_size v) ?_
  refine low_init (s := ⟨(hp.push (kdv_tup [v])).push (excO C hp.objs.size), g, dr, tk, os⟩) T (X.keeps k) (hlim.keeps k) hget hnx ?_ fun h' tk' dx ⟨k', hx, dn, dne, hns⟩ => ?_
  · show A.depth + 1 < recursionLimit
    exact hroom
  · have old : ∀ b o, hp.get? b = some o → h'.get? b = some o := fun b o e => k' b o (Nat.ne_of_lt (Nat.lt_succ_of_lt (Heap.lt_size e))) (k b o e)
    have z : hp.objs.size + 1 + 1 ≤ dx := by
      first
        | (simpa only [Heap.size_push] using dn)
        | exact dn
        | (have q := dn; rw [Heap.size_push, Heap.size_push] at q; exact q)
    exact ⟨rfl, hq h' tk' (hp.objs.size + 1) dx ⟨old, Nat.le_succ _, ⟨_, _, hx, rfl, rfl, rfl, rfl⟩, Nat.le_trans (Nat.le_trans (Nat.le_succ _) (Nat.le_succ _)) z, dne, hns⟩⟩
end
end ErrX
end PySem
namespace L2
open PySem PySem.Spec PyProof.Rows
theorem relO_low {v : V} {v' : Value} (r : RelV v v') (f : Str) : RelO (List.lookup f [(("at" : Str), v)]) (if f = "at" then some v' else none) := by
  by_cases hw : f = "at"
  · subst hw
    rw [if_pos rfl]
    have q : List.lookup ("at" : Str) [(("at" : Str), v)] = some v := by simp [List.lookup]
    rw [q]
    exact r
  · rw [if_neg hw]
    have qw : (f == ("at" : Str)) = false := by simpa using hw
    have q2 : List.lookup f [(("at" : Str), v)] = none := by simp [List.lookup, qw]
    rw [q2]
    trivial
section
variable {X : Cx} {C fI : Addr} {cn qn : Str}
/-- Low(e) -/
def tMkLow (C : Addr) (ta : TA) : St → Hp → XK → Prop := fun σ H Q => ta σ H fun vs H1 => ∃ v, vs = [v] ∧ ∀ d, H1 d = none → Q (.ref C) (some d) (upd H1 d (.xd [(("at" : Str), v)]))
theorem pmk_low {a : Expr} {ta : TA} {p pos : Pos} {k : Nat} (T : PySem.ErrX.ErrTxt X.K X.mg cn qn C fI) (hr : Room k X.A) (ha : PA X [a] ta) (hg : Gl X cn) (hdb : (cn == ("__debug__" : Str)) = false := by decide)
    (he : starEach (a :: []) X.env = (false, eval a X.env) :: starEach [] X.env := by rfl) (hpl : (backTo pos (starEach [] X.env)).any (·.1) = false := by rfl) :
    PMk X (.Call (.Name cn p) [a] [] pos) (tMkLow C ta) := by
  intro pins s σ H Q I h
  refine wpAny_Call_Name_kw (ld_glob I hg T.gC ?_ hdb)
  refine PySem.W.callWith_K (h₀ := X.base) I.ok.mod.kin T.kC (thn (ha.run pos pins s σ H _ I h) fun us s1 hh => ?_) he hpl
  obtain ⟨vs, H1, I1, r1, v, ev, q1⟩ := hh
  subst ev
  refine ⟨I1.kIn, ?_⟩
  cases r1 with
  | cons rv rn =>
    rename_i v' us'
    cases rn
    show wpAny _ _ (call (.ref C) [v']) _ _ _
    have hlim := I1.nolimit
    obtain ⟨hp, g, dr, tk, os⟩ := s1
    refine wpAny_call (PySem.ErrX.low_made T I1.kIn hlim (by have := hr.dp; omega) fun h' tk' e d M => ?_)
    show MkP X pins σ Q (.ref e) ⟨h', g, dr, tk', os⟩
    obtain ⟨oe, fv, hoe, hc, hd, hdat, h1⟩ := M.obj
    have hns := M.ns
    obtain ⟨G', g1, g2⟩ := restrict h' fun b => decide (b ≠ e)
    have gk : ∀ b, b ≠ e → G'.get? b = h'.get? b := fun b hb => g1 b (decide_eq_true hb)
    have ge : G'.get? e = none := g2 e (by simp)
    have old : ∀ b o, hp.get? b = some o → G'.get? b = some o := fun b o q => (gk b (Nat.ne_of_lt (Nat.lt_of_lt_of_le (Heap.lt_size q) M.new))).trans (M.keep b o q)
    have ob : ObjOk X.prog X.w (upd H1 d (.xd [(("at" : Str), v)])) G' d (.xd [(("at" : Str), v)]) :=
      ⟨_, hns.at (fun o q => (gk d M.dne).trans q), fun f => relO_low rv f⟩
    have J : Inv X pins σ (upd H1 d (.xd [(("at" : Str), v)])) ⟨G', g, dr, tk', os⟩ := I1.laid (t' := tk') old M.dbig ob
    refine ⟨e, oe, fv, ⟨G', g, dr, tk', os⟩, _, .ref C, some d, rfl, J, fun b o q => ?_, ge, hoe, ⟨hc, hd⟩, hdat, h1, ?_, rfl, I1.bare, raises_own T.exC T.tyC, q1 d (I1.hok.fresh M.dbig)⟩
    · by_cases hb : b = e
      · have q' : G'.get? b = some o := q
        rw [hb, ge] at q'; cases q'
      · exact (gk b hb).symm.trans q
    · rw [upd_ne (Ne.symm M.dne)]
      exact I1.hok.fresh M.new
/-- raise Low(e) -/
def tRaiseLow (C : Addr) (W : WX) (ta : TA) : TS := fun _ σ H => tMkLow C ta σ H fun cls d H' => W cls d σ H'
theorem ps_raiseLow {a : Expr} {ta : TA} {W : WX} {p pos pos2 : Pos} {k : Nat} (hc : X.calm = true) (T : PySem.ErrX.ErrTxt X.K X.mg cn qn C fI) (hr : Room k X.A) (tk : Takes X W) (ha : PA X [a] ta) (hg : Gl X cn) (hdb : (cn == ("__debug__" : Str)) = false := by decide)
    (he : starEach (a :: []) X.env = (false, eval a X.env) :: starEach [] X.env := by rfl) (hpl : (backTo pos (starEach [] X.env)).any (·.1) = false := by rfl) :
    PS X (.Raise (some (.Call (.Name cn p) [a] [] pos)) none pos2) (tRaiseLow C W ta) := ps_raise hc tk (pmk_low T hr ha hg hdb he hpl)
/-- low.by, low the exception that the suite holds (at a; its class cls, its dict d) -/
def tByLow (C : Addr) (a : Addr) (cls : Value) (d : Option Addr) (te : TE) : TE := fun σ H Q => te σ H fun x H1 => x = .ref a ∧ cls = .ref C ∧ ∃ (dd : Addr) (v : V), d = some dd ∧ H1 dd = some (.xd [(("at" : Str), v)]) ∧ Q v H1
theorem pe_byLow {a : Addr} {oe : Obj} {cls : Value} {d : Option Addr} {pn : List (Addr × Obj)} {e : Expr} {te : TE} {pos : Pos} (T : PySem.ErrX.ErrTxt X.K X.mg cn qn C fI) (hz : Zc cls d oe) (hf : ∃ vs, oe.data = .fields vs) (he : PE (X.suite a ((a, oe) :: pn)) e te)
    (hb : attributeBase e "at" X.env (eval e X.env) = eval e X.env := by rfl) :
    PE (X.suite a ((a, oe) :: pn)) (.Attribute e "at" pos) (tByLow C a cls d te) := by
  refine ⟨fun pins s σ H Q I h => ?_⟩
  refine attr_of hb (thn (he.run pins s σ H _ I h) fun u s1 hh => ?_)
  obtain ⟨x, H1, I1, rx, ex, ec, dd, v, ed, ea, q⟩ := hh
  subst ex
  obtain rfl : u = Value.ref a := rx
  subst ec
  subst ed
  obtain ⟨ha, _⟩ := I1.pin (a, oe) (List.mem_append_left _ List.mem_cons_self)
  obtain ⟨vs, hd⟩ := hf
  have hx : ObjOk X.prog X.w H1 s1.heap dd (.xd [(("at" : Str), v)]) := I1.hok dd _ ea
  obtain ⟨mA, hns, hr⟩ := hx
  obtain ⟨od, ho, hl⟩ := lookIn_ns hns
  have l : List.lookup ("at" : Str) [(("at" : Str), v)] = some v := by simp [List.lookup]
  obtain ⟨u, hu, ru⟩ := RelO.some_of (v := v) (o := mA "at") (by rw [← l]; exact hr "at")
  have J : PySem.W.InstAt s1.heap a oe C (some od) := ⟨ha, hz.1, by unfold PySem.W.notCls; rw [hd] <;> rfl, by rw [hz.2]; exact ho⟩
  exact HandSPX.exc_get I1.kIn J T.ga T.gg T.exC (PySem.W.findObj_own T.hdC T.noN rfl (by rw [hl, hu])) (handed_of ru) ⟨v, H1, I1.tok _, ru, q⟩
end
end L2


set_option Elab.async false
set_option linter.all false
set_option maxRecDepth 100000
set_option maxHeartbeats 4000000
namespace Lk
open PySem L2
abbrev s_Machine___init : Stmt := inClass (top 12) 0
abbrev N_Machine___init : List Str := ["self", "commands", "steps", "state", "entry"]
abbrev P_Machine___init : List Str := ["self", "commands", "steps"]
theorem sc_Machine___init : FnScope N_Machine___init P_Machine___init (defScope s_Machine___init) := ⟨rfl, rfl, rfl, by decide +kernel, rfl, by decide +kernel, by decide +kernel⟩
section
variable {K : PySem.W.Frag} {j : Nat} {te : TE} {σ : St} {H1 : Hp} {D : Addr} {Qd : Hp → Prop}
theorem lcTT {a : Addr} {xs : List V} (S : Addr → Prop) (I : Hp → Prop) (f : Nat → V → Hp → Prop) (hD : H1 D = none) (hS : ¬ S D) (hn : xs.length ≤ 1000000) (hI : I H1) (mI : ∀ H o, I H → I (upd H D o))
    (mf : ∀ i y H H', KP (fun a => S a ∨ a = D) H H' → f i y H → f i y H') (ha : ∀ H, KP S H1 H → SqT K H a xs)
    (hs : ∀ i x H acc, xs[i]? = some x → I H → KP S H1 H → H D = some (.lst acc) → ∀ Q : VK, (∀ y H4, I H4 → KP S H H4 → f i y H4 → Q y H4) → te ((wipe σ [j]).set j (some x)) H Q)
    (hd : ∀ ys H', ys.length = xs.length → (∀ i y, ys[i]? = some y → f i y H') → H' D = some (.lst ys) → I H' → KP S H1 H' → Qd H') :
    ∃ W : Nat → Nat → Hp → Prop, (∃ m, W 0 m (upd H1 D (.lst []))) ∧ ∀ i m H, W i m H →
      ((Itt K a).stop i H ∧ Qd H) ∨ ((Itt K a).go i H ∧ ∃ Nx : Hp → Prop, (∀ H', Nx H' → ∃ m', m' < m ∧ W (i + 1) m' H') ∧ ∀ x H', (Itt K a).yld i H x H' → gName j x (wipe σ [j]) H' fun σ2 H2 => wipe σ2 [j] = wipe σ [j] ∧ tYes σ2 H2 fun b H3 =>
        if b = true then te σ2 H3 fun y H4 => ∃ acc, H4 D = some (.lst acc) ∧ acc.length < sizeLine ∧ Nx (upd H4 D (.lst (acc ++ [y]))) else Nx H3) := by
  refine lc_tup (xs := xs) (Lcp S I f H1 D) (Lcp.zero hD mI hI) (fun i H _ x => ha H x.2.1) (fun i x0 H hi x => ?_) (fun H x => ?_)
  · have hi' : i < xs.length := (List.getElem?_eq_some_iff.mp hi).1
    refine ⟨wipe1 _ _ _, iteT (B := Lcp S I f H1 D (i + 1) H) ?_⟩
    obtain ⟨acc, e⟩ : ∃ acc, H D = some (.lst acc) := by
      obtain ⟨_, _, ys, e, _⟩ := x
      exact ⟨ys, e⟩
    exact hs i x0 H acc hi x.1 x.2.1 e _ fun y H4 h1 h2 h3 => x.step hD hS mI mf (by omega) h1 h2 h3
  · obtain ⟨h1, h2, ys, e, hl, hf⟩ := x
    exact hd ys H hl hf e h1 h2
end
/-! ### a machine's making, as data -/
def badC : PyData → Bool
  | .int i => decide (i ≤ 0)
  | _ => true
def badAt (A n : Int) : List PyData → Nat → Option Nat
  | [], _ => none
  | e :: r, i => if isE A n e = true then badAt A n r (i + 1) else some i
/-- the number of the refusal, if the commands are right -/
def stepsRes (A : Int) (d : PyData) : Option Int :=
  if isS d = false ∨ itemsD d = [] then some 1 else (badAt A ((itemsD d).length : Int) (itemsD d) 0).map fun i => 2 + (i : Int)
def intD : PyData → Int
  | .int i => i
  | _ => 0
def rowD (e : PyData) : List Int := (itemsD e).map intD
theorem badAt_cons {A n : Int} {e : PyData} {r : List PyData} {i : Nat} : badAt A n (e :: r) i = if isE A n e = true then badAt A n r (i + 1) else some i := rfl
theorem badAt_none {A n : Int} : ∀ {ds : List PyData} {i : Nat}, badAt A n ds i = none → ∀ e ∈ ds, isE A n e = true
  | [], _, _, e, h => nomatch h
  | d :: ds, i, h, e, he => by
    unfold badAt at h
    by_cases hE : isE A n d = true
    · rw [if_pos hE] at h
      rcases List.mem_cons.mp he with z | z
      · rw [z]
        exact hE
      · exact badAt_none h e z
    · rw [if_neg hE] at h
      cases h
theorem drop_get {α : Type} : ∀ {xs : List α} {i : Nat} {x : α}, xs[i]? = some x → xs.drop i = x :: xs.drop (i + 1)
  | [], _, _, h => by simp at h
  | y :: xs, 0, x, h => by
    have e : y = x := Option.some.inj h
    rw [e]
    rfl
  | y :: xs, i + 1, x, h => drop_get (xs := xs) (i := i) h
theorem DvAll.ints {H : Hp} {n : Int} : ∀ {xs : List V} {ds : List PyData}, DvAll H xs ds → ds.all (isB n) = true → xs = (ds.map intD).map V.int
  | _, _, .nil, _ => rfl
  | _, _, .cons (d := d) h t, e => by
    rw [List.all_cons, Bool.and_eq_true] at e
    rw [DvAll.ints t e.2]
    cases h with
    | int i => rfl
    | non => cases e.1
    | bl b => cases e.1
    | str b => cases e.1
    | lst _ _ => cases e.1
    | tup _ _ => cases e.1
    | dct _ => cases e.1
theorem entry_read {H : Hp} {y : V} {e : PyData} {A n : Int} (h : Dv H y e) (hE : isE A n e = true) : ∃ (b : Addr) (zs : Unit), y = .ref b ∧ (H b = some (.lst ((rowD e).map V.int)) ∨ H b = some (.tup ((rowD e).map V.int))) := by
  unfold isE at hE
  rw [Bool.and_eq_true, Bool.and_eq_true] at hE
  obtain ⟨h1, _, h3⟩ := hE
  cases h with
  | @lst b xs ds hb hx => exact ⟨b, (), rfl, .inl (by rw [hb, hx.ints h3] <;> rfl)⟩
  | @tup b xs ds hb hx => exact ⟨b, (), rfl, .inr (by rw [hb, hx.ints h3] <;> rfl)⟩
  | non => cases h1
  | int _ => cases h1
  | bl b => cases h1
  | str b => cases h1
  | dct _ => cases h1
/-! ### machines in the heap -/
def fldM (A n : Int) (t : Addr) : List (Str × V) := putF "steps" (.ref t) (putF "states" (.int n) (putF "commands" (.int A) []))
/-- at m a machine of the class at C with A commands and these rows -/
def MachAt (C : Addr) (H : Hp) (m : Addr) (A : Int) (us : List (Addr × List Int)) : Prop :=
  ∃ dx t, H m = some (.ins C dx (fldM A (us.length : Int) t)) ∧ H t = some (.tup (us.map fun u => V.ref u.1)) ∧ ∀ u ∈ us, H u.1 = some (.tup (u.2.map V.int))
/-- what the top says of the class -/
structure TxC (K : PySem.W.Frag) (C : Addr) : Prop where
  cl : Cls K C
  n1 : NoAttr K C "commands"
  n2 : NoAttr K C "states"
  n3 : NoAttr K C "steps"
def spInit (CM CE : Addr) : Sp := fun vs H Q E => ∃ (m dx : Addr) (x y : V) (dc ds : PyData), vs = [.ref m, x, y] ∧ H m = some (.ins CM dx []) ∧ Dv H x dc ∧ Dv H y ds ∧ (itemsD ds).length ≤ 1000 ∧ (∀ e ∈ itemsD ds, (itemsD e).length ≤ 1000) ∧
  (badC dc = true → ∀ H' d, Same H H' → H' d = none → E (.ref CE) (some d) (upd H' d (.xd [(("at" : Str), .int 0)]))) ∧
  (badC dc = false → ∀ A, dc = .int A → match stepsRes A ds with
    | some k => ∀ H' d, Same H H' → H' d = none → E (.ref CE) (some d) (upd H' d (.xd [(("at" : Str), .int k)]))
    | none => ∀ H' us, KP (fun b => b = m) H H' → MachAt CM H' m A us → us.map (·.2) = (itemsD ds).map rowD → Q .non H')
section
variable {P : Program} {w : World} {K : PySem.W.Frag} {mg : Str → Option Value} {base : Heap}
theorem ok_init {f fi fn fb fs fr fe CM CE fCE : Addr} {fd fdi fdn fdb fds fdr fde : FuncData} (F : Fun K "__init__" "Machine.__init__" s_Machine___init f fd) (d_is_entry : Df K mg "_is_entry" s_is_entry fe fde P_is_entry) (d_is_sequence : Df K mg "is_sequence" s_is_sequence fs fds P_is_sequence) (d_are_below : Df K mg "are_below" s_are_below fr fdr P_are_below) (d_is_below : Df K mg "is_below" s_is_below fb fdb P_is_below) (d_is_number : Df K mg "is_number" s_is_number fn fdn P_is_number) (d_is_integer : Df K mg "is_integer" s_is_integer fi fdi P_is_integer)
    (T : Txt mg) (TC : TxC K CM) (TE : PySem.ErrX.ErrTxt K mg "InvalidMachine" "InvalidMachine.__init__" CE fCE) : FnOk P w K mg base (L2.CX P w) 7 f fd P_Machine___init (spInit CM CE) := by
  have G_is_sequence : FnOk P w K mg base CX0 1 fs fds P_is_sequence (spT1 isS) := ok_sequence d_is_sequence T
  have G_is_number : FnOk P w K mg base CX0 2 fn fdn P_is_number (spT1 isN) := ok_number d_is_number d_is_integer T
  have G_is_entry : FnOk P w K mg base CX0 5 fe fde P_is_entry spEntry := ok_entry d_is_entry d_is_sequence d_are_below d_is_below d_is_number d_is_integer T
  refine F.okX sc_Machine___init (fun vs H Q E h => ?_) (fun cdv Ar outer s H vs Q E hr h => ?_)
  · obtain ⟨m, dx, x, y, dc, ds, rfl, _⟩ := h
    rfl
  · obtain ⟨m, dx, x, y, dc, ds, rfl, hm, Dx, Dy, hz1, hz2, kB, kG⟩ := h
    cases id Dy with
    | @lst a xs ds' ha hx => 
      refine ⟨_, (pss_cons (ps_if (PW.pt (pw_or (pt_not (pt_val (pe_call G_is_number (hr.mono (by decide)) rfl d_is_number.g d_is_number.F.kp d_is_number.b .nil pass0 (pa_cons (pv 1) pa_nil)))) (pw_or1 (pt_cmpR op_eq (pv 1) pe_int (nomark _))))) (pss_one (ps_raiseLow rfl TE hr (takes_of rfl rfl rfl rfl) (pa_cons pe_int pa_nil) (by rfl))) pss_nil)
    (pss_cons (ps_if (PW.pt (pw_or (pt_not (pt_val (pe_call G_is_sequence (hr.mono (by decide)) rfl d_is_sequence.g d_is_sequence.F.kp d_is_sequence.b .nil pass0 (pa_cons (pv 2) pa_nil)))) (pw_or1 (pt_cmpR op_eq (pe_callB call_len_seq (by rfl) T.len PySem.boot_len (pa_cons (pv 2) pa_nil)) pe_int (nomark _))))) (pss_one (ps_raiseLow rfl TE hr (takes_of rfl rfl rfl rfl) (pa_cons pe_int pa_nil) (by rfl))) pss_nil)
    (pss_cons (ps_for (passes_of rfl) rfl (pi_enum (by rfl) T.enumerate (pa_cons (pv 2) pa_nil)) (pg_tup rfl (pgs_cons (pg_name (i := 3) sc_Machine___init.nd rfl (Or.inl rfl)) (pgs_cons (pg_name (i := 4) sc_Machine___init.nd rfl (Or.inl rfl)) pgs_nil)))
      (pss_one (ps_if (pt_not (pt_val (pe_call G_is_entry (hr.mono (by decide)) rfl d_is_entry.g d_is_entry.F.kp d_is_entry.b .nil pass0 (pa_cons (pv 4) (pa_cons (pv 1) (pa_cons (pe_callB call_len_seq (by rfl) T.len PySem.boot_len (pa_cons (pv 2) pa_nil)) pa_nil)))))) (pss_one (ps_raiseLow rfl TE hr (takes_of rfl rfl rfl rfl) (pa_cons (pe_op op_add pe_int (pv 3)) pa_nil) (by rfl))) pss_nil)))
    (pss_cons (ps_fld (pv 0) (pv 1) rfl)
    (pss_cons (ps_fld (pv 0) (pe_callB call_len_seq (by rfl) T.len PySem.boot_len (pa_cons (pv 2) pa_nil)) rfl)
    (pss_one (ps_fld (pv 0) (pe_tupleOf (by rfl) T.tuple (pe_lc (own := [("entry", 4)]) (g := gName 4) (tt := tYes) (te := tThen (tVar 4) (kTup K)) rfl sc_Machine___init.nd (pi_list (pv 2)) (blkOk_by (N := N_Machine___init) (sc := defScope s_Machine___init) (by decide +kernel)) (fun _ _ _ _ _ => (pg_name (i := 4) sc_Machine___init.nd rfl (Or.inl rfl))) (fun _ _ _ _ _ => pts_nil) (fun _ _ _ _ _ => (pe_tupleOf (by rfl) T.tuple (pv 4))))) rfl))))))), ?_⟩
      have hne : a ≠ m := fun e => by
        rw [e, hm] at ha
        cases ha
      refine ⟨_, rfl, x, dc, rfl, Dx, fun H1 S1 => ⟨isN dc, rfl, ?_⟩⟩
      have hlen : xs.length = ds'.length := hx.len
      -- the first test
      by_cases hb : badC dc = true
      · have kb := kB hb
        have hN : ∀ i, dc = .int i → i ≤ 0 := fun i e => by
          rw [e] at hb
          exact of_decide_eq_true hb
        cases Dx with
        | int i =>
          have i0 := hN i rfl
          show (if (!decide (0 ≤ i)) = true then _ else _)
          by_cases h0 : 0 ≤ i
          · have e0 : i = 0 := by omega
            rw [decide_eq_true h0]
            refine iteF ⟨_, rfl, rfl, _, rfl, ?_⟩
            rw [e0]
            refine iteT ⟨_, rfl, fun q hq => kb H1 q S1 hq⟩
          · rw [decide_eq_false h0]
            exact iteT (iteT ⟨_, rfl, fun q hq => kb H1 q S1 hq⟩)
        | non => exact iteT (iteT ⟨_, rfl, fun q hq => kb H1 q S1 hq⟩)
        | bl b => exact iteT (iteT ⟨_, rfl, fun q hq => kb H1 q S1 hq⟩)
        | str b => exact iteT (iteT ⟨_, rfl, fun q hq => kb H1 q S1 hq⟩)
        | lst _ _ => exact iteT (iteT ⟨_, rfl, fun q hq => kb H1 q S1 hq⟩)
        | tup _ _ => exact iteT (iteT ⟨_, rfl, fun q hq => kb H1 q S1 hq⟩)
        | dct _ => exact iteT (iteT ⟨_, rfl, fun q hq => kb H1 q S1 hq⟩)
      obtain ⟨A, rfl, A0⟩ : ∃ A : Int, dc = .int A ∧ 0 < A := by
        cases dc with
        | int i => exact ⟨i, rfl, by have : ¬ i ≤ 0 := fun q => hb (decide_eq_true q); omega⟩
        | none => exact absurd rfl hb
        | bool _ => exact absurd rfl hb
        | str _ => exact absurd rfl hb
        | list _ => exact absurd rfl hb
        | tuple _ => exact absurd rfl hb
        | dict _ => exact absurd rfl hb
      have kG' := kG (by simpa using hb) A rfl
      obtain rfl : x = V.int A := by cases Dx; rfl
      show (if (!decide (0 ≤ A)) = true then _ else _)
      rw [decide_eq_true (show 0 ≤ A by omega)]
      refine iteF ⟨_, rfl, rfl, _, rfl, ?_⟩
      rw [decide_eq_false (show ¬ V.int A = V.int 0 from fun e => by injection e with e; omega)]
      refine iteF ?_
      -- the second test
      refine ⟨_, rfl, .ref a, _, rfl, Dy.same S1, fun H2 S2 => ⟨true, rfl, iteF ⟨_, rfl, a, xs, rfl, .inl (SqL.of ((S1.trans S2) _ _ ha)), rfl, _, rfl, ?_⟩⟩⟩
      have S12 := S1.trans S2
      cases hds : ds' with
      | nil =>
        have hx0 : xs.length = 0 := by rw [hlen, hds]; rfl
        rw [hx0]
        refine iteT ⟨_, rfl, fun q hq => ?_⟩
        have e : stepsRes A (.list ds') = some 1 := by rw [hds] <;> rfl
        rw [e] at kG'
        exact kG' H2 q S12 hq
      | cons d0 dr =>
      have hpos : 0 < ds'.length := by rw [hds]; simp
      rw [decide_eq_false (show ¬ V.int ((xs.length : Nat) : Int) = V.int 0 from fun e => by injection e with e; omega)]
      refine iteF ?_
      have eR : stepsRes A (.list ds') = (badAt A (ds'.length : Int) ds' 0).map fun i => 2 + (i : Int) := by
        unfold stepsRes
        rw [if_neg (by rw [hds]; intro z; rcases z with z | z <;> cases z)]
        rfl
      rw [eR] at kG'
      refine ⟨_, rfl, a, xs, rfl, SqL.of (S12 _ _ ha), for_enumL (K := K) (a := a) (xs := xs) (fun i σ H3 => ∃ v3 v4 : Option V, σ = [some (.ref m), some (.int A), some (.ref a), v3, v4] ∧ Same H H3 ∧ badAt A (ds'.length : Int) ds' 0 = badAt A (ds'.length : Int) (ds'.drop i) i) ⟨none, none, rfl, S12, rfl⟩ (fun i σ H3 ⟨_, _, _, S, _⟩ => SqL.of (S _ _ ha)) ?_ ?_⟩
      · rintro i y σ H3 t hi ⟨v3, v4, rfl, S3, eb⟩ ht
        obtain ⟨e, he, De⟩ := hx.get hi
        have S4 : Same H (upd H3 t (HO.tup [V.int ((i : Nat) : Int), y])) := S3.trans (Same.new ht)
        refine ⟨t, _, rfl, SqT.of upd_same, rfl, _, _, rfl, _, _, rfl, rfl, ?_⟩
        refine ⟨_, rfl, _, rfl, _, rfl, a, xs, rfl, .inl (SqL.of (S4 _ _ ha)), y, e, A, _, rfl, De.same S4, Nat.le_trans (hz2 e (mem_of_get he)) (by decide), fun H5 S5 => ⟨isE A ((xs.length : Nat) : Int) e, rfl, ?_⟩⟩
        rw [drop_get he] at eb
        rw [hlen]
        rw [badAt_cons] at eb
        by_cases hE : isE A (ds'.length : Int) e = true
        · rw [if_pos hE] at eb
          rw [hE]
          exact iteF ⟨_, _, rfl, S4.trans S5, eb⟩
        · rw [if_neg hE] at eb
          rw [show isE A (ds'.length : Int) e = false by simpa using hE]
          refine iteT ⟨_, rfl, _, _, rfl, rfl, _, rfl, fun q hq => ?_⟩
          rw [eb] at kG'
          exact kG' H5 q (S4.trans S5) hq
      · rintro σ H3 ⟨v3, v4, rfl, S3, eb⟩
        rw [hlen, List.drop_length] at eb
        rw [show badAt A (ds'.length : Int) ds' 0 = none from eb] at kG'
        have okE : ∀ e ∈ ds', isE A (ds'.length : Int) e = true := badAt_none eb
        have hm3 : H3 m = some (.ins CM dx []) := S3 _ _ hm
        -- the fields
        refine ⟨_, rfl, _, rfl, m, CM, dx, [], rfl, hm3, TC.cl, TC.n1, (by show 0 < 1000; decide), ?_⟩
        have hkm : ∀ {o : HO}, KP (fun b => b = m) H (upd H3 m o) := (KP.same (S := fun b => b = m) S3).trans (kp_upd rfl)
        refine ⟨_, rfl, a, xs, rfl, .inl (SqL.of (hkm.get hne ha)), _, rfl, m, CM, dx, _, rfl, upd_same, TC.cl, TC.n2, (by show 1 < 1000; decide), ?_⟩
        have hkm2 : ∀ {o1 o2 : HO}, KP (fun b => b = m) H (upd (upd H3 m o1) m o2) := ((KP.same (S := fun b => b = m) S3).trans (kp_upd rfl)).trans (kp_upd rfl)
        refine ⟨_, rfl, a, rfl, ⟨_, SqL.of (hkm2.get hne ha)⟩, fun D hD => ?_⟩
        have nDm : D ≠ m := fun e => by
          rw [e, upd_same] at hD
          cases hD
        have hD0 : H D = none := hkm2.free nDm hD
        refine lcL (K := K) (xs := xs) (fun _ => False) (fun H' => True) (fun i y H' => ∃ u : Addr × List Int, y = V.ref u.1 ∧ u.1 ≠ D ∧ u.1 ≠ m ∧ H' u.1 = some (.tup (u.2.map V.int)) ∧ ∃ e, ds'[i]? = some e ∧ u.2 = rowD e) hD id (by rw [hlen]; exact Nat.le_trans hz1 (by decide)) trivial (fun _ _ _ => trivial)
          (fun i y H' H'' kk ⟨u, e1, e2, e3, e4, e5⟩ => ⟨u, e1, e2, e3, kk.get (fun z => z.elim id e2) e4, e5⟩) (fun H' kk => SqL.of (kk.get id (hkm2.get hne ha))) (fun i y H4 acc hi _ k4 hDa Q4 kQ => ?_) (fun ys H4 hl4 hf4 hD4 _ k4 => ?_)
        · obtain ⟨e, he, De⟩ := hx.get hi
          have hE := okE e (mem_of_get he)
          obtain ⟨b, zs, hyb, hb1⟩ := entry_read De hE
          have bm : b ≠ m := fun q => by
            rcases hb1 with h1 | h1 <;>
            · rw [q, hm] at h1
              cases h1
          have hb4 : ∀ {o : HO}, H b = some o → H4 b = some o := fun h => k4.get id (hkm2.get bm h)
          refine ⟨_, rfl, ?_⟩
          rw [hyb]
          rcases hb1 with h1 | h1
          · refine .inl ⟨b, _, rfl, SqL.of (hb4 h1), fun q hq => kQ _ _ trivial (KP.new hq) ⟨(q, rowD e), rfl, fun z => ?_, fun z => ?_, upd_same, e, he, rfl⟩⟩
            · have z' : q = D := z
              rw [z', hDa] at hq
              cases hq
            · have z' : q = m := z
              have hm4 : H4 m = some _ := k4.get id upd_same
              rw [z', hm4] at hq
              cases hq
          · refine .inr ⟨b, _, rfl, SqT.of (hb4 h1), kQ _ _ trivial (KP.refl _ _) ⟨(b, rowD e), rfl, fun z => ?_, bm, hb4 h1, e, he, rfl⟩⟩
            have z' : b = D := z
            rw [z', hD0] at h1
            cases h1
        · obtain ⟨us, rfl, hu⟩ := collect (g := fun u : Addr × List Int => V.ref u.1) hf4
          refine .inl ⟨D, _, rfl, SqL.of hD4, fun t ht => ?_⟩
          have hm4 : H4 m = some _ := k4.get id upd_same
          have ntm : t ≠ m := fun e => by
            rw [e, hm4] at ht
            cases ht
          refine ⟨_, rfl, m, CM, dx, _, rfl, by rw [upd_ne ntm.symm]; exact hm4, TC.cl, TC.n3, (by show 2 < 1000; decide), ?_⟩
          rw [List.length_map] at hl4
          have hmem : ∀ u ∈ us, u.1 ≠ m ∧ H4 u.1 = some (.tup (u.2.map V.int)) := fun u hu' => by
            obtain ⟨i, hi⟩ := List.getElem?_of_mem hu'
            obtain ⟨_, h2, h3, _⟩ := hu i u hi
            exact ⟨h2, h3⟩
          refine kG' _ us (((hkm2.trans (k4.weak fun _ z => z.elim)).trans (KP.new ht)).trans (kp_upd rfl)) ⟨dx, t, ?_, ?_, fun u hu' => ?_⟩ ?_
          · rw [upd_same, hl4]
            rfl
          · rw [upd_ne ntm, upd_same]
          · obtain ⟨h2, h3⟩ := hmem u hu'
            rw [upd_ne h2]
            exact nk h3 ht
          · refine List.ext_getElem? fun i => ?_
            rw [List.getElem?_map]
            cases hi : us[i]? with
            | none =>
              have q : us.length ≤ i := List.getElem?_eq_none_iff.mp hi
              have q2 : ((itemsD (.list ds')).map rowD)[i]? = none := List.getElem?_eq_none_iff.mpr (by rw [List.length_map]; show ds'.length ≤ i; omega)
              exact q2.symm
            | some u =>
              obtain ⟨_, _, _, e, he, hr'⟩ := hu i u hi
              have q2 : ((itemsD (.list ds')).map rowD)[i]? = some (rowD e) := by
                rw [List.getElem?_map]
                show (ds'[i]?).map rowD = _
                rw [he] <;> rfl
              rw [q2]
              show some u.2 = some (rowD e)
              rw [hr']
    | @tup a xs ds' ha hx => 
      refine ⟨_, (pss_cons (ps_if (PW.pt (pw_or (pt_not (pt_val (pe_call G_is_number (hr.mono (by decide)) rfl d_is_number.g d_is_number.F.kp d_is_number.b .nil pass0 (pa_cons (pv 1) pa_nil)))) (pw_or1 (pt_cmpR op_eq (pv 1) pe_int (nomark _))))) (pss_one (ps_raiseLow rfl TE hr (takes_of rfl rfl rfl rfl) (pa_cons pe_int pa_nil) (by rfl))) pss_nil)
    (pss_cons (ps_if (PW.pt (pw_or (pt_not (pt_val (pe_call G_is_sequence (hr.mono (by decide)) rfl d_is_sequence.g d_is_sequence.F.kp d_is_sequence.b .nil pass0 (pa_cons (pv 2) pa_nil)))) (pw_or1 (pt_cmpR op_eq (pe_callB call_len_seq (by rfl) T.len PySem.boot_len (pa_cons (pv 2) pa_nil)) pe_int (nomark _))))) (pss_one (ps_raiseLow rfl TE hr (takes_of rfl rfl rfl rfl) (pa_cons pe_int pa_nil) (by rfl))) pss_nil)
    (pss_cons (ps_for (passes_of rfl) rfl (pi_enumT (by rfl) T.enumerate (pa_cons (pv 2) pa_nil)) (pg_tup rfl (pgs_cons (pg_name (i := 3) sc_Machine___init.nd rfl (Or.inl rfl)) (pgs_cons (pg_name (i := 4) sc_Machine___init.nd rfl (Or.inl rfl)) pgs_nil)))
      (pss_one (ps_if (pt_not (pt_val (pe_call G_is_entry (hr.mono (by decide)) rfl d_is_entry.g d_is_entry.F.kp d_is_entry.b .nil pass0 (pa_cons (pv 4) (pa_cons (pv 1) (pa_cons (pe_callB call_len_seq (by rfl) T.len PySem.boot_len (pa_cons (pv 2) pa_nil)) pa_nil)))))) (pss_one (ps_raiseLow rfl TE hr (takes_of rfl rfl rfl rfl) (pa_cons (pe_op op_add pe_int (pv 3)) pa_nil) (by rfl))) pss_nil)))
    (pss_cons (ps_fld (pv 0) (pv 1) rfl)
    (pss_cons (ps_fld (pv 0) (pe_callB call_len_seq (by rfl) T.len PySem.boot_len (pa_cons (pv 2) pa_nil)) rfl)
    (pss_one (ps_fld (pv 0) (pe_tupleOf (by rfl) T.tuple (pe_lc (own := [("entry", 4)]) (g := gName 4) (tt := tYes) (te := tThen (tVar 4) (kTup K)) rfl sc_Machine___init.nd (pi_tup (pv 2)) (blkOk_by (N := N_Machine___init) (sc := defScope s_Machine___init) (by decide +kernel)) (fun _ _ _ _ _ => (pg_name (i := 4) sc_Machine___init.nd rfl (Or.inl rfl))) (fun _ _ _ _ _ => pts_nil) (fun _ _ _ _ _ => (pe_tupleOf (by rfl) T.tuple (pv 4))))) rfl))))))), ?_⟩
      have hne : a ≠ m := fun e => by
        rw [e, hm] at ha
        cases ha
      refine ⟨_, rfl, x, dc, rfl, Dx, fun H1 S1 => ⟨isN dc, rfl, ?_⟩⟩
      have hlen : xs.length = ds'.length := hx.len
      -- the first test
      by_cases hb : badC dc = true
      · have kb := kB hb
        have hN : ∀ i, dc = .int i → i ≤ 0 := fun i e => by
          rw [e] at hb
          exact of_decide_eq_true hb
        cases Dx with
        | int i =>
          have i0 := hN i rfl
          show (if (!decide (0 ≤ i)) = true then _ else _)
          by_cases h0 : 0 ≤ i
          · have e0 : i = 0 := by omega
            rw [decide_eq_true h0]
            refine iteF ⟨_, rfl, rfl, _, rfl, ?_⟩
            rw [e0]
            refine iteT ⟨_, rfl, fun q hq => kb H1 q S1 hq⟩
          · rw [decide_eq_false h0]
            exact iteT (iteT ⟨_, rfl, fun q hq => kb H1 q S1 hq⟩)
        | non => exact iteT (iteT ⟨_, rfl, fun q hq => kb H1 q S1 hq⟩)
        | bl b => exact iteT (iteT ⟨_, rfl, fun q hq => kb H1 q S1 hq⟩)
        | str b => exact iteT (iteT ⟨_, rfl, fun q hq => kb H1 q S1 hq⟩)
        | lst _ _ => exact iteT (iteT ⟨_, rfl, fun q hq => kb H1 q S1 hq⟩)
        | tup _ _ => exact iteT (iteT ⟨_, rfl, fun q hq => kb H1 q S1 hq⟩)
        | dct _ => exact iteT (iteT ⟨_, rfl, fun q hq => kb H1 q S1 hq⟩)
      obtain ⟨A, rfl, A0⟩ : ∃ A : Int, dc = .int A ∧ 0 < A := by
        cases dc with
        | int i => exact ⟨i, rfl, by have : ¬ i ≤ 0 := fun q => hb (decide_eq_true q); omega⟩
        | none => exact absurd rfl hb
        | bool _ => exact absurd rfl hb
        | str _ => exact absurd rfl hb
        | list _ => exact absurd rfl hb
        | tuple _ => exact absurd rfl hb
        | dict _ => exact absurd rfl hb
      have kG' := kG (by simpa using hb) A rfl
      obtain rfl : x = V.int A := by cases Dx; rfl
      show (if (!decide (0 ≤ A)) = true then _ else _)
      rw [decide_eq_true (show 0 ≤ A by omega)]
      refine iteF ⟨_, rfl, rfl, _, rfl, ?_⟩
      rw [decide_eq_false (show ¬ V.int A = V.int 0 from fun e => by injection e with e; omega)]
      refine iteF ?_
      -- the second test
      refine ⟨_, rfl, .ref a, _, rfl, Dy.same S1, fun H2 S2 => ⟨true, rfl, iteF ⟨_, rfl, a, xs, rfl, .inr (SqT.of ((S1.trans S2) _ _ ha)), rfl, _, rfl, ?_⟩⟩⟩
      have S12 := S1.trans S2
      cases hds : ds' with
      | nil =>
        have hx0 : xs.length = 0 := by rw [hlen, hds]; rfl
        rw [hx0]
        refine iteT ⟨_, rfl, fun q hq => ?_⟩
        have e : stepsRes A (.tuple ds') = some 1 := by rw [hds] <;> rfl
        rw [e] at kG'
        exact kG' H2 q S12 hq
      | cons d0 dr =>
      have hpos : 0 < ds'.length := by rw [hds]; simp
      rw [decide_eq_false (show ¬ V.int ((xs.length : Nat) : Int) = V.int 0 from fun e => by injection e with e; omega)]
      refine iteF ?_
      have eR : stepsRes A (.tuple ds') = (badAt A (ds'.length : Int) ds' 0).map fun i => 2 + (i : Int) := by
        unfold stepsRes
        rw [if_neg (by rw [hds]; intro z; rcases z with z | z <;> cases z)]
        rfl
      rw [eR] at kG'
      refine ⟨_, rfl, a, xs, rfl, SqT.of (S12 _ _ ha), for_enumT (K := K) (a := a) (xs := xs) (fun i σ H3 => ∃ v3 v4 : Option V, σ = [some (.ref m), some (.int A), some (.ref a), v3, v4] ∧ Same H H3 ∧ badAt A (ds'.length : Int) ds' 0 = badAt A (ds'.length : Int) (ds'.drop i) i) ⟨none, none, rfl, S12, rfl⟩ (fun i σ H3 ⟨_, _, _, S, _⟩ => SqT.of (S _ _ ha)) ?_ ?_⟩
      · rintro i y σ H3 t hi ⟨v3, v4, rfl, S3, eb⟩ ht
        obtain ⟨e, he, De⟩ := hx.get hi
        have S4 : Same H (upd H3 t (HO.tup [V.int ((i : Nat) : Int), y])) := S3.trans (Same.new ht)
        refine ⟨t, _, rfl, SqT.of upd_same, rfl, _, _, rfl, _, _, rfl, rfl, ?_⟩
        refine ⟨_, rfl, _, rfl, _, rfl, a, xs, rfl, .inr (SqT.of (S4 _ _ ha)), y, e, A, _, rfl, De.same S4, Nat.le_trans (hz2 e (mem_of_get he)) (by decide), fun H5 S5 => ⟨isE A ((xs.length : Nat) : Int) e, rfl, ?_⟩⟩
        rw [drop_get he] at eb
        rw [hlen]
        rw [badAt_cons] at eb
        by_cases hE : isE A (ds'.length : Int) e = true
        · rw [if_pos hE] at eb
          rw [hE]
          exact iteF ⟨_, _, rfl, S4.trans S5, eb⟩
        · rw [if_neg hE] at eb
          rw [show isE A (ds'.length : Int) e = false by simpa using hE]
          refine iteT ⟨_, rfl, _, _, rfl, rfl, _, rfl, fun q hq => ?_⟩
          rw [eb] at kG'
          exact kG' H5 q (S4.trans S5) hq
      · rintro σ H3 ⟨v3, v4, rfl, S3, eb⟩
        rw [hlen, List.drop_length] at eb
        rw [show badAt A (ds'.length : Int) ds' 0 = none from eb] at kG'
        have okE : ∀ e ∈ ds', isE A (ds'.length : Int) e = true := badAt_none eb
        have hm3 : H3 m = some (.ins CM dx []) := S3 _ _ hm
        -- the fields
        refine ⟨_, rfl, _, rfl, m, CM, dx, [], rfl, hm3, TC.cl, TC.n1, (by show 0 < 1000; decide), ?_⟩
        have hkm : ∀ {o : HO}, KP (fun b => b = m) H (upd H3 m o) := (KP.same (S := fun b => b = m) S3).trans (kp_upd rfl)
        refine ⟨_, rfl, a, xs, rfl, .inr (SqT.of (hkm.get hne ha)), _, rfl, m, CM, dx, _, rfl, upd_same, TC.cl, TC.n2, (by show 1 < 1000; decide), ?_⟩
        have hkm2 : ∀ {o1 o2 : HO}, KP (fun b => b = m) H (upd (upd H3 m o1) m o2) := ((KP.same (S := fun b => b = m) S3).trans (kp_upd rfl)).trans (kp_upd rfl)
        refine ⟨_, rfl, a, rfl, ⟨_, SqT.of (hkm2.get hne ha)⟩, fun D hD => ?_⟩
        have nDm : D ≠ m := fun e => by
          rw [e, upd_same] at hD
          cases hD
        have hD0 : H D = none := hkm2.free nDm hD
        refine lcTT (K := K) (xs := xs) (fun _ => False) (fun H' => True) (fun i y H' => ∃ u : Addr × List Int, y = V.ref u.1 ∧ u.1 ≠ D ∧ u.1 ≠ m ∧ H' u.1 = some (.tup (u.2.map V.int)) ∧ ∃ e, ds'[i]? = some e ∧ u.2 = rowD e) hD id (by rw [hlen]; exact Nat.le_trans hz1 (by decide)) trivial (fun _ _ _ => trivial)
          (fun i y H' H'' kk ⟨u, e1, e2, e3, e4, e5⟩ => ⟨u, e1, e2, e3, kk.get (fun z => z.elim id e2) e4, e5⟩) (fun H' kk => SqT.of (kk.get id (hkm2.get hne ha))) (fun i y H4 acc hi _ k4 hDa Q4 kQ => ?_) (fun ys H4 hl4 hf4 hD4 _ k4 => ?_)
        · obtain ⟨e, he, De⟩ := hx.get hi
          have hE := okE e (mem_of_get he)
          obtain ⟨b, zs, hyb, hb1⟩ := entry_read De hE
          have bm : b ≠ m := fun q => by
            rcases hb1 with h1 | h1 <;>
            · rw [q, hm] at h1
              cases h1
          have hb4 : ∀ {o : HO}, H b = some o → H4 b = some o := fun h => k4.get id (hkm2.get bm h)
          refine ⟨_, rfl, ?_⟩
          rw [hyb]
          rcases hb1 with h1 | h1
          · refine .inl ⟨b, _, rfl, SqL.of (hb4 h1), fun q hq => kQ _ _ trivial (KP.new hq) ⟨(q, rowD e), rfl, fun z => ?_, fun z => ?_, upd_same, e, he, rfl⟩⟩
            · have z' : q = D := z
              rw [z', hDa] at hq
              cases hq
            · have z' : q = m := z
              have hm4 : H4 m = some _ := k4.get id upd_same
              rw [z', hm4] at hq
              cases hq
          · refine .inr ⟨b, _, rfl, SqT.of (hb4 h1), kQ _ _ trivial (KP.refl _ _) ⟨(b, rowD e), rfl, fun z => ?_, bm, hb4 h1, e, he, rfl⟩⟩
            have z' : b = D := z
            rw [z', hD0] at h1
            cases h1
        · obtain ⟨us, rfl, hu⟩ := collect (g := fun u : Addr × List Int => V.ref u.1) hf4
          refine .inl ⟨D, _, rfl, SqL.of hD4, fun t ht => ?_⟩
          have hm4 : H4 m = some _ := k4.get id upd_same
          have ntm : t ≠ m := fun e => by
            rw [e, hm4] at ht
            cases ht
          refine ⟨_, rfl, m, CM, dx, _, rfl, by rw [upd_ne ntm.symm]; exact hm4, TC.cl, TC.n3, (by show 2 < 1000; decide), ?_⟩
          rw [List.length_map] at hl4
          have hmem : ∀ u ∈ us, u.1 ≠ m ∧ H4 u.1 = some (.tup (u.2.map V.int)) := fun u hu' => by
            obtain ⟨i, hi⟩ := List.getElem?_of_mem hu'
            obtain ⟨_, h2, h3, _⟩ := hu i u hi
            exact ⟨h2, h3⟩
          refine kG' _ us (((hkm2.trans (k4.weak fun _ z => z.elim)).trans (KP.new ht)).trans (kp_upd rfl)) ⟨dx, t, ?_, ?_, fun u hu' => ?_⟩ ?_
          · rw [upd_same, hl4]
            rfl
          · rw [upd_ne ntm, upd_same]
          · obtain ⟨h2, h3⟩ := hmem u hu'
            rw [upd_ne h2]
            exact nk h3 ht
          · refine List.ext_getElem? fun i => ?_
            rw [List.getElem?_map]
            cases hi : us[i]? with
            | none =>
              have q : us.length ≤ i := List.getElem?_eq_none_iff.mp hi
              have q2 : ((itemsD (.tuple ds')).map rowD)[i]? = none := List.getElem?_eq_none_iff.mpr (by rw [List.length_map]; show ds'.length ≤ i; omega)
              exact q2.symm
            | some u =>
              obtain ⟨_, _, _, e, he, hr'⟩ := hu i u hi
              have q2 : ((itemsD (.tuple ds')).map rowD)[i]? = some (rowD e) := by
                rw [List.getElem?_map]
                show (ds'[i]?).map rowD = _
                rw [he] <;> rfl
              rw [q2]
              show some u.2 = some (rowD e)
              rw [hr']
    | non => 
      refine ⟨_, (pss_cons (ps_if (PW.pt (pw_or (pt_not (pt_val (pe_call G_is_number (hr.mono (by decide)) rfl d_is_number.g d_is_number.F.kp d_is_number.b .nil pass0 (pa_cons (pv 1) pa_nil)))) (pw_or1 (pt_cmpR op_eq (pv 1) pe_int (nomark _))))) (pss_one (ps_raiseLow rfl TE hr (takes_of rfl rfl rfl rfl) (pa_cons pe_int pa_nil) (by rfl))) pss_nil)
    (pss_cons (ps_if (PW.pt (pw_or (pt_not (pt_val (pe_call G_is_sequence (hr.mono (by decide)) rfl d_is_sequence.g d_is_sequence.F.kp d_is_sequence.b .nil pass0 (pa_cons (pv 2) pa_nil)))) (pw_or1 (pt_cmpR op_eq (pe_callB call_len_seq (by rfl) T.len PySem.boot_len (pa_cons (pv 2) pa_nil)) pe_int (nomark _))))) (pss_one (ps_raiseLow rfl TE hr (takes_of rfl rfl rfl rfl) (pa_cons pe_int pa_nil) (by rfl))) pss_nil)
    (pss_cons (ps_for (passes_of rfl) rfl (pi_enum (by rfl) T.enumerate (pa_cons (pv 2) pa_nil)) (pg_tup rfl (pgs_cons (pg_name (i := 3) sc_Machine___init.nd rfl (Or.inl rfl)) (pgs_cons (pg_name (i := 4) sc_Machine___init.nd rfl (Or.inl rfl)) pgs_nil)))
      (pss_one (ps_if (pt_not (pt_val (pe_call G_is_entry (hr.mono (by decide)) rfl d_is_entry.g d_is_entry.F.kp d_is_entry.b .nil pass0 (pa_cons (pv 4) (pa_cons (pv 1) (pa_cons (pe_callB call_len_seq (by rfl) T.len PySem.boot_len (pa_cons (pv 2) pa_nil)) pa_nil)))))) (pss_one (ps_raiseLow rfl TE hr (takes_of rfl rfl rfl rfl) (pa_cons (pe_op op_add pe_int (pv 3)) pa_nil) (by rfl))) pss_nil)))
    (pss_cons (ps_fld (pv 0) (pv 1) rfl)
    (pss_cons (ps_fld (pv 0) (pe_callB call_len_seq (by rfl) T.len PySem.boot_len (pa_cons (pv 2) pa_nil)) rfl)
    (pss_one (ps_fld (pv 0) (pe_tupleOf (by rfl) T.tuple (pe_lc (own := [("entry", 4)]) (g := gName 4) (tt := tYes) (te := tThen (tVar 4) (kTup K)) rfl sc_Machine___init.nd (pi_list (pv 2)) (blkOk_by (N := N_Machine___init) (sc := defScope s_Machine___init) (by decide +kernel)) (fun _ _ _ _ _ => (pg_name (i := 4) sc_Machine___init.nd rfl (Or.inl rfl))) (fun _ _ _ _ _ => pts_nil) (fun _ _ _ _ _ => (pe_tupleOf (by rfl) T.tuple (pv 4))))) rfl))))))), ?_⟩
      refine ⟨_, rfl, x, dc, rfl, Dx, fun H1 S1 => ⟨isN dc, rfl, ?_⟩⟩
      -- the first test
      by_cases hb : badC dc = true
      · have kb := kB hb
        have hN : ∀ i, dc = .int i → i ≤ 0 := fun i e => by
          rw [e] at hb
          exact of_decide_eq_true hb
        cases Dx with
        | int i =>
          have i0 := hN i rfl
          show (if (!decide (0 ≤ i)) = true then _ else _)
          by_cases h0 : 0 ≤ i
          · have e0 : i = 0 := by omega
            rw [decide_eq_true h0]
            refine iteF ⟨_, rfl, rfl, _, rfl, ?_⟩
            rw [e0]
            refine iteT ⟨_, rfl, fun q hq => kb H1 q S1 hq⟩
          · rw [decide_eq_false h0]
            exact iteT (iteT ⟨_, rfl, fun q hq => kb H1 q S1 hq⟩)
        | non => exact iteT (iteT ⟨_, rfl, fun q hq => kb H1 q S1 hq⟩)
        | bl b => exact iteT (iteT ⟨_, rfl, fun q hq => kb H1 q S1 hq⟩)
        | str b => exact iteT (iteT ⟨_, rfl, fun q hq => kb H1 q S1 hq⟩)
        | lst _ _ => exact iteT (iteT ⟨_, rfl, fun q hq => kb H1 q S1 hq⟩)
        | tup _ _ => exact iteT (iteT ⟨_, rfl, fun q hq => kb H1 q S1 hq⟩)
        | dct _ => exact iteT (iteT ⟨_, rfl, fun q hq => kb H1 q S1 hq⟩)
      obtain ⟨A, rfl, A0⟩ : ∃ A : Int, dc = .int A ∧ 0 < A := by
        cases dc with
        | int i => exact ⟨i, rfl, by have : ¬ i ≤ 0 := fun q => hb (decide_eq_true q); omega⟩
        | none => exact absurd rfl hb
        | bool _ => exact absurd rfl hb
        | str _ => exact absurd rfl hb
        | list _ => exact absurd rfl hb
        | tuple _ => exact absurd rfl hb
        | dict _ => exact absurd rfl hb
      have kG' := kG (by simpa using hb) A rfl
      obtain rfl : x = V.int A := by cases Dx; rfl
      show (if (!decide (0 ≤ A)) = true then _ else _)
      rw [decide_eq_true (show 0 ≤ A by omega)]
      refine iteF ⟨_, rfl, rfl, _, rfl, ?_⟩
      rw [decide_eq_false (show ¬ V.int A = V.int 0 from fun e => by injection e with e; omega)]
      refine iteF ?_
      refine ⟨_, rfl, _, _, rfl, Dy.same S1, fun H2 S2 => ⟨false, rfl, iteT (iteT ⟨_, rfl, fun q hq => ?_⟩)⟩⟩
      have e : stepsRes A .none = some 1 := rfl
      rw [e] at kG'
      exact kG' H2 q (S1.trans S2) hq
    | bl b => 
      refine ⟨_, (pss_cons (ps_if (PW.pt (pw_or (pt_not (pt_val (pe_call G_is_number (hr.mono (by decide)) rfl d_is_number.g d_is_number.F.kp d_is_number.b .nil pass0 (pa_cons (pv 1) pa_nil)))) (pw_or1 (pt_cmpR op_eq (pv 1) pe_int (nomark _))))) (pss_one (ps_raiseLow rfl TE hr (takes_of rfl rfl rfl rfl) (pa_cons pe_int pa_nil) (by rfl))) pss_nil)
    (pss_cons (ps_if (PW.pt (pw_or (pt_not (pt_val (pe_call G_is_sequence (hr.mono (by decide)) rfl d_is_sequence.g d_is_sequence.F.kp d_is_sequence.b .nil pass0 (pa_cons (pv 2) pa_nil)))) (pw_or1 (pt_cmpR op_eq (pe_callB call_len_seq (by rfl) T.len PySem.boot_len (pa_cons (pv 2) pa_nil)) pe_int (nomark _))))) (pss_one (ps_raiseLow rfl TE hr (takes_of rfl rfl rfl rfl) (pa_cons pe_int pa_nil) (by rfl))) pss_nil)
    (pss_cons (ps_for (passes_of rfl) rfl (pi_enum (by rfl) T.enumerate (pa_cons (pv 2) pa_nil)) (pg_tup rfl (pgs_cons (pg_name (i := 3) sc_Machine___init.nd rfl (Or.inl rfl)) (pgs_cons (pg_name (i := 4) sc_Machine___init.nd rfl (Or.inl rfl)) pgs_nil)))
      (pss_one (ps_if (pt_not (pt_val (pe_call G_is_entry (hr.mono (by decide)) rfl d_is_entry.g d_is_entry.F.kp d_is_entry.b .nil pass0 (pa_cons (pv 4) (pa_cons (pv 1) (pa_cons (pe_callB call_len_seq (by rfl) T.len PySem.boot_len (pa_cons (pv 2) pa_nil)) pa_nil)))))) (pss_one (ps_raiseLow rfl TE hr (takes_of rfl rfl rfl rfl) (pa_cons (pe_op op_add pe_int (pv 3)) pa_nil) (by rfl))) pss_nil)))
    (pss_cons (ps_fld (pv 0) (pv 1) rfl)
    (pss_cons (ps_fld (pv 0) (pe_callB call_len_seq (by rfl) T.len PySem.boot_len (pa_cons (pv 2) pa_nil)) rfl)
    (pss_one (ps_fld (pv 0) (pe_tupleOf (by rfl) T.tuple (pe_lc (own := [("entry", 4)]) (g := gName 4) (tt := tYes) (te := tThen (tVar 4) (kTup K)) rfl sc_Machine___init.nd (pi_list (pv 2)) (blkOk_by (N := N_Machine___init) (sc := defScope s_Machine___init) (by decide +kernel)) (fun _ _ _ _ _ => (pg_name (i := 4) sc_Machine___init.nd rfl (Or.inl rfl))) (fun _ _ _ _ _ => pts_nil) (fun _ _ _ _ _ => (pe_tupleOf (by rfl) T.tuple (pv 4))))) rfl))))))), ?_⟩
      refine ⟨_, rfl, x, dc, rfl, Dx, fun H1 S1 => ⟨isN dc, rfl, ?_⟩⟩
      -- the first test
      by_cases hb : badC dc = true
      · have kb := kB hb
        have hN : ∀ i, dc = .int i → i ≤ 0 := fun i e => by
          rw [e] at hb
          exact of_decide_eq_true hb
        cases Dx with
        | int i =>
          have i0 := hN i rfl
          show (if (!decide (0 ≤ i)) = true then _ else _)
          by_cases h0 : 0 ≤ i
          · have e0 : i = 0 := by omega
            rw [decide_eq_true h0]
            refine iteF ⟨_, rfl, rfl, _, rfl, ?_⟩
            rw [e0]
            refine iteT ⟨_, rfl, fun q hq => kb H1 q S1 hq⟩
          · rw [decide_eq_false h0]
            exact iteT (iteT ⟨_, rfl, fun q hq => kb H1 q S1 hq⟩)
        | non => exact iteT (iteT ⟨_, rfl, fun q hq => kb H1 q S1 hq⟩)
        | bl b => exact iteT (iteT ⟨_, rfl, fun q hq => kb H1 q S1 hq⟩)
        | str b => exact iteT (iteT ⟨_, rfl, fun q hq => kb H1 q S1 hq⟩)
        | lst _ _ => exact iteT (iteT ⟨_, rfl, fun q hq => kb H1 q S1 hq⟩)
        | tup _ _ => exact iteT (iteT ⟨_, rfl, fun q hq => kb H1 q S1 hq⟩)
        | dct _ => exact iteT (iteT ⟨_, rfl, fun q hq => kb H1 q S1 hq⟩)
      obtain ⟨A, rfl, A0⟩ : ∃ A : Int, dc = .int A ∧ 0 < A := by
        cases dc with
        | int i => exact ⟨i, rfl, by have : ¬ i ≤ 0 := fun q => hb (decide_eq_true q); omega⟩
        | none => exact absurd rfl hb
        | bool _ => exact absurd rfl hb
        | str _ => exact absurd rfl hb
        | list _ => exact absurd rfl hb
        | tuple _ => exact absurd rfl hb
        | dict _ => exact absurd rfl hb
      have kG' := kG (by simpa using hb) A rfl
      obtain rfl : x = V.int A := by cases Dx; rfl
      show (if (!decide (0 ≤ A)) = true then _ else _)
      rw [decide_eq_true (show 0 ≤ A by omega)]
      refine iteF ⟨_, rfl, rfl, _, rfl, ?_⟩
      rw [decide_eq_false (show ¬ V.int A = V.int 0 from fun e => by injection e with e; omega)]
      refine iteF ?_
      refine ⟨_, rfl, _, _, rfl, Dy.same S1, fun H2 S2 => ⟨false, rfl, iteT (iteT ⟨_, rfl, fun q hq => ?_⟩)⟩⟩
      have e : stepsRes A (.bool b) = some 1 := rfl
      rw [e] at kG'
      exact kG' H2 q (S1.trans S2) hq
    | int i0 => 
      refine ⟨_, (pss_cons (ps_if (PW.pt (pw_or (pt_not (pt_val (pe_call G_is_number (hr.mono (by decide)) rfl d_is_number.g d_is_number.F.kp d_is_number.b .nil pass0 (pa_cons (pv 1) pa_nil)))) (pw_or1 (pt_cmpR op_eq (pv 1) pe_int (nomark _))))) (pss_one (ps_raiseLow rfl TE hr (takes_of rfl rfl rfl rfl) (pa_cons pe_int pa_nil) (by rfl))) pss_nil)
    (pss_cons (ps_if (PW.pt (pw_or (pt_not (pt_val (pe_call G_is_sequence (hr.mono (by decide)) rfl d_is_sequence.g d_is_sequence.F.kp d_is_sequence.b .nil pass0 (pa_cons (pv 2) pa_nil)))) (pw_or1 (pt_cmpR op_eq (pe_callB call_len_seq (by rfl) T.len PySem.boot_len (pa_cons (pv 2) pa_nil)) pe_int (nomark _))))) (pss_one (ps_raiseLow rfl TE hr (takes_of rfl rfl rfl rfl) (pa_cons pe_int pa_nil) (by rfl))) pss_nil)
    (pss_cons (ps_for (passes_of rfl) rfl (pi_enum (by rfl) T.enumerate (pa_cons (pv 2) pa_nil)) (pg_tup rfl (pgs_cons (pg_name (i := 3) sc_Machine___init.nd rfl (Or.inl rfl)) (pgs_cons (pg_name (i := 4) sc_Machine___init.nd rfl (Or.inl rfl)) pgs_nil)))
      (pss_one (ps_if (pt_not (pt_val (pe_call G_is_entry (hr.mono (by decide)) rfl d_is_entry.g d_is_entry.F.kp d_is_entry.b .nil pass0 (pa_cons (pv 4) (pa_cons (pv 1) (pa_cons (pe_callB call_len_seq (by rfl) T.len PySem.boot_len (pa_cons (pv 2) pa_nil)) pa_nil)))))) (pss_one (ps_raiseLow rfl TE hr (takes_of rfl rfl rfl rfl) (pa_cons (pe_op op_add pe_int (pv 3)) pa_nil) (by rfl))) pss_nil)))
    (pss_cons (ps_fld (pv 0) (pv 1) rfl)
    (pss_cons (ps_fld (pv 0) (pe_callB call_len_seq (by rfl) T.len PySem.boot_len (pa_cons (pv 2) pa_nil)) rfl)
    (pss_one (ps_fld (pv 0) (pe_tupleOf (by rfl) T.tuple (pe_lc (own := [("entry", 4)]) (g := gName 4) (tt := tYes) (te := tThen (tVar 4) (kTup K)) rfl sc_Machine___init.nd (pi_list (pv 2)) (blkOk_by (N := N_Machine___init) (sc := defScope s_Machine___init) (by decide +kernel)) (fun _ _ _ _ _ => (pg_name (i := 4) sc_Machine___init.nd rfl (Or.inl rfl))) (fun _ _ _ _ _ => pts_nil) (fun _ _ _ _ _ => (pe_tupleOf (by rfl) T.tuple (pv 4))))) rfl))))))), ?_⟩
      refine ⟨_, rfl, x, dc, rfl, Dx, fun H1 S1 => ⟨isN dc, rfl, ?_⟩⟩
      -- the first test
      by_cases hb : badC dc = true
      · have kb := kB hb
        have hN : ∀ i, dc = .int i → i ≤ 0 := fun i e => by
          rw [e] at hb
          exact of_decide_eq_true hb
        cases Dx with
        | int i =>
          have i0 := hN i rfl
          show (if (!decide (0 ≤ i)) = true then _ else _)
          by_cases h0 : 0 ≤ i
          · have e0 : i = 0 := by omega
            rw [decide_eq_true h0]
            refine iteF ⟨_, rfl, rfl, _, rfl, ?_⟩
            rw [e0]
            refine iteT ⟨_, rfl, fun q hq => kb H1 q S1 hq⟩
          · rw [decide_eq_false h0]
            exact iteT (iteT ⟨_, rfl, fun q hq => kb H1 q S1 hq⟩)
        | non => exact iteT (iteT ⟨_, rfl, fun q hq => kb H1 q S1 hq⟩)
        | bl b => exact iteT (iteT ⟨_, rfl, fun q hq => kb H1 q S1 hq⟩)
        | str b => exact iteT (iteT ⟨_, rfl, fun q hq => kb H1 q S1 hq⟩)
        | lst _ _ => exact iteT (iteT ⟨_, rfl, fun q hq => kb H1 q S1 hq⟩)
        | tup _ _ => exact iteT (iteT ⟨_, rfl, fun q hq => kb H1 q S1 hq⟩)
        | dct _ => exact iteT (iteT ⟨_, rfl, fun q hq => kb H1 q S1 hq⟩)
      obtain ⟨A, rfl, A0⟩ : ∃ A : Int, dc = .int A ∧ 0 < A := by
        cases dc with
        | int i => exact ⟨i, rfl, by have : ¬ i ≤ 0 := fun q => hb (decide_eq_true q); omega⟩
        | none => exact absurd rfl hb
        | bool _ => exact absurd rfl hb
        | str _ => exact absurd rfl hb
        | list _ => exact absurd rfl hb
        | tuple _ => exact absurd rfl hb
        | dict _ => exact absurd rfl hb
      have kG' := kG (by simpa using hb) A rfl
      obtain rfl : x = V.int A := by cases Dx; rfl
      show (if (!decide (0 ≤ A)) = true then _ else _)
      rw [decide_eq_true (show 0 ≤ A by omega)]
      refine iteF ⟨_, rfl, rfl, _, rfl, ?_⟩
      rw [decide_eq_false (show ¬ V.int A = V.int 0 from fun e => by injection e with e; omega)]
      refine iteF ?_
      refine ⟨_, rfl, _, _, rfl, Dy.same S1, fun H2 S2 => ⟨false, rfl, iteT (iteT ⟨_, rfl, fun q hq => ?_⟩)⟩⟩
      have e : stepsRes A (.int i0) = some 1 := rfl
      rw [e] at kG'
      exact kG' H2 q (S1.trans S2) hq
    | str z => 
      refine ⟨_, (pss_cons (ps_if (PW.pt (pw_or (pt_not (pt_val (pe_call G_is_number (hr.mono (by decide)) rfl d_is_number.g d_is_number.F.kp d_is_number.b .nil pass0 (pa_cons (pv 1) pa_nil)))) (pw_or1 (pt_cmpR op_eq (pv 1) pe_int (nomark _))))) (pss_one (ps_raiseLow rfl TE hr (takes_of rfl rfl rfl rfl) (pa_cons pe_int pa_nil) (by rfl))) pss_nil)
    (pss_cons (ps_if (PW.pt (pw_or (pt_not (pt_val (pe_call G_is_sequence (hr.mono (by decide)) rfl d_is_sequence.g d_is_sequence.F.kp d_is_sequence.b .nil pass0 (pa_cons (pv 2) pa_nil)))) (pw_or1 (pt_cmpR op_eq (pe_callB call_len_seq (by rfl) T.len PySem.boot_len (pa_cons (pv 2) pa_nil)) pe_int (nomark _))))) (pss_one (ps_raiseLow rfl TE hr (takes_of rfl rfl rfl rfl) (pa_cons pe_int pa_nil) (by rfl))) pss_nil)
    (pss_cons (ps_for (passes_of rfl) rfl (pi_enum (by rfl) T.enumerate (pa_cons (pv 2) pa_nil)) (pg_tup rfl (pgs_cons (pg_name (i := 3) sc_Machine___init.nd rfl (Or.inl rfl)) (pgs_cons (pg_name (i := 4) sc_Machine___init.nd rfl (Or.inl rfl)) pgs_nil)))
      (pss_one (ps_if (pt_not (pt_val (pe_call G_is_entry (hr.mono (by decide)) rfl d_is_entry.g d_is_entry.F.kp d_is_entry.b .nil pass0 (pa_cons (pv 4) (pa_cons (pv 1) (pa_cons (pe_callB call_len_seq (by rfl) T.len PySem.boot_len (pa_cons (pv 2) pa_nil)) pa_nil)))))) (pss_one (ps_raiseLow rfl TE hr (takes_of rfl rfl rfl rfl) (pa_cons (pe_op op_add pe_int (pv 3)) pa_nil) (by rfl))) pss_nil)))
    (pss_cons (ps_fld (pv 0) (pv 1) rfl)
    (pss_cons (ps_fld (pv 0) (pe_callB call_len_seq (by rfl) T.len PySem.boot_len (pa_cons (pv 2) pa_nil)) rfl)
    (pss_one (ps_fld (pv 0) (pe_tupleOf (by rfl) T.tuple (pe_lc (own := [("entry", 4)]) (g := gName 4) (tt := tYes) (te := tThen (tVar 4) (kTup K)) rfl sc_Machine___init.nd (pi_list (pv 2)) (blkOk_by (N := N_Machine___init) (sc := defScope s_Machine___init) (by decide +kernel)) (fun _ _ _ _ _ => (pg_name (i := 4) sc_Machine___init.nd rfl (Or.inl rfl))) (fun _ _ _ _ _ => pts_nil) (fun _ _ _ _ _ => (pe_tupleOf (by rfl) T.tuple (pv 4))))) rfl))))))), ?_⟩
      refine ⟨_, rfl, x, dc, rfl, Dx, fun H1 S1 => ⟨isN dc, rfl, ?_⟩⟩
      -- the first test
      by_cases hb : badC dc = true
      · have kb := kB hb
        have hN : ∀ i, dc = .int i → i ≤ 0 := fun i e => by
          rw [e] at hb
          exact of_decide_eq_true hb
        cases Dx with
        | int i =>
          have i0 := hN i rfl
          show (if (!decide (0 ≤ i)) = true then _ else _)
          by_cases h0 : 0 ≤ i
          · have e0 : i = 0 := by omega
            rw [decide_eq_true h0]
            refine iteF ⟨_, rfl, rfl, _, rfl, ?_⟩
            rw [e0]
            refine iteT ⟨_, rfl, fun q hq => kb H1 q S1 hq⟩
          · rw [decide_eq_false h0]
            exact iteT (iteT ⟨_, rfl, fun q hq => kb H1 q S1 hq⟩)
        | non => exact iteT (iteT ⟨_, rfl, fun q hq => kb H1 q S1 hq⟩)
        | bl b => exact iteT (iteT ⟨_, rfl, fun q hq => kb H1 q S1 hq⟩)
        | str b => exact iteT (iteT ⟨_, rfl, fun q hq => kb H1 q S1 hq⟩)
        | lst _ _ => exact iteT (iteT ⟨_, rfl, fun q hq => kb H1 q S1 hq⟩)
        | tup _ _ => exact iteT (iteT ⟨_, rfl, fun q hq => kb H1 q S1 hq⟩)
        | dct _ => exact iteT (iteT ⟨_, rfl, fun q hq => kb H1 q S1 hq⟩)
      obtain ⟨A, rfl, A0⟩ : ∃ A : Int, dc = .int A ∧ 0 < A := by
        cases dc with
        | int i => exact ⟨i, rfl, by have : ¬ i ≤ 0 := fun q => hb (decide_eq_true q); omega⟩
        | none => exact absurd rfl hb
        | bool _ => exact absurd rfl hb
        | str _ => exact absurd rfl hb
        | list _ => exact absurd rfl hb
        | tuple _ => exact absurd rfl hb
        | dict _ => exact absurd rfl hb
      have kG' := kG (by simpa using hb) A rfl
      obtain rfl : x = V.int A := by cases Dx; rfl
      show (if (!decide (0 ≤ A)) = true then _ else _)
      rw [decide_eq_true (show 0 ≤ A by omega)]
      refine iteF ⟨_, rfl, rfl, _, rfl, ?_⟩
      rw [decide_eq_false (show ¬ V.int A = V.int 0 from fun e => by injection e with e; omega)]
      refine iteF ?_
      refine ⟨_, rfl, _, _, rfl, Dy.same S1, fun H2 S2 => ⟨false, rfl, iteT (iteT ⟨_, rfl, fun q hq => ?_⟩)⟩⟩
      have e : stepsRes A (.str z) = some 1 := rfl
      rw [e] at kG'
      exact kG' H2 q (S1.trans S2) hq
    | dct _ => 
      refine ⟨_, (pss_cons (ps_if (PW.pt (pw_or (pt_not (pt_val (pe_call G_is_number (hr.mono (by decide)) rfl d_is_number.g d_is_number.F.kp d_is_number.b .nil pass0 (pa_cons (pv 1) pa_nil)))) (pw_or1 (pt_cmpR op_eq (pv 1) pe_int (nomark _))))) (pss_one (ps_raiseLow rfl TE hr (takes_of rfl rfl rfl rfl) (pa_cons pe_int pa_nil) (by rfl))) pss_nil)
    (pss_cons (ps_if (PW.pt (pw_or (pt_not (pt_val (pe_call G_is_sequence (hr.mono (by decide)) rfl d_is_sequence.g d_is_sequence.F.kp d_is_sequence.b .nil pass0 (pa_cons (pv 2) pa_nil)))) (pw_or1 (pt_cmpR op_eq (pe_callB call_len_seq (by rfl) T.len PySem.boot_len (pa_cons (pv 2) pa_nil)) pe_int (nomark _))))) (pss_one (ps_raiseLow rfl TE hr (takes_of rfl rfl rfl rfl) (pa_cons pe_int pa_nil) (by rfl))) pss_nil)
    (pss_cons (ps_for (passes_of rfl) rfl (pi_enum (by rfl) T.enumerate (pa_cons (pv 2) pa_nil)) (pg_tup rfl (pgs_cons (pg_name (i := 3) sc_Machine___init.nd rfl (Or.inl rfl)) (pgs_cons (pg_name (i := 4) sc_Machine___init.nd rfl (Or.inl rfl)) pgs_nil)))
      (pss_one (ps_if (pt_not (pt_val (pe_call G_is_entry (hr.mono (by decide)) rfl d_is_entry.g d_is_entry.F.kp d_is_entry.b .nil pass0 (pa_cons (pv 4) (pa_cons (pv 1) (pa_cons (pe_callB call_len_seq (by rfl) T.len PySem.boot_len (pa_cons (pv 2) pa_nil)) pa_nil)))))) (pss_one (ps_raiseLow rfl TE hr (takes_of rfl rfl rfl rfl) (pa_cons (pe_op op_add pe_int (pv 3)) pa_nil) (by rfl))) pss_nil)))
    (pss_cons (ps_fld (pv 0) (pv 1) rfl)
    (pss_cons (ps_fld (pv 0) (pe_callB call_len_seq (by rfl) T.len PySem.boot_len (pa_cons (pv 2) pa_nil)) rfl)
    (pss_one (ps_fld (pv 0) (pe_tupleOf (by rfl) T.tuple (pe_lc (own := [("entry", 4)]) (g := gName 4) (tt := tYes) (te := tThen (tVar 4) (kTup K)) rfl sc_Machine___init.nd (pi_list (pv 2)) (blkOk_by (N := N_Machine___init) (sc := defScope s_Machine___init) (by decide +kernel)) (fun _ _ _ _ _ => (pg_name (i := 4) sc_Machine___init.nd rfl (Or.inl rfl))) (fun _ _ _ _ _ => pts_nil) (fun _ _ _ _ _ => (pe_tupleOf (by rfl) T.tuple (pv 4))))) rfl))))))), ?_⟩
      refine ⟨_, rfl, x, dc, rfl, Dx, fun H1 S1 => ⟨isN dc, rfl, ?_⟩⟩
      -- the first test
      by_cases hb : badC dc = true
      · have kb := kB hb
        have hN : ∀ i, dc = .int i → i ≤ 0 := fun i e => by
          rw [e] at hb
          exact of_decide_eq_true hb
        cases Dx with
        | int i =>
          have i0 := hN i rfl
          show (if (!decide (0 ≤ i)) = true then _ else _)
          by_cases h0 : 0 ≤ i
          · have e0 : i = 0 := by omega
            rw [decide_eq_true h0]
            refine iteF ⟨_, rfl, rfl, _, rfl, ?_⟩
            rw [e0]
            refine iteT ⟨_, rfl, fun q hq => kb H1 q S1 hq⟩
          · rw [decide_eq_false h0]
            exact iteT (iteT ⟨_, rfl, fun q hq => kb H1 q S1 hq⟩)
        | non => exact iteT (iteT ⟨_, rfl, fun q hq => kb H1 q S1 hq⟩)
        | bl b => exact iteT (iteT ⟨_, rfl, fun q hq => kb H1 q S1 hq⟩)
        | str b => exact iteT (iteT ⟨_, rfl, fun q hq => kb H1 q S1 hq⟩)
        | lst _ _ => exact iteT (iteT ⟨_, rfl, fun q hq => kb H1 q S1 hq⟩)
        | tup _ _ => exact iteT (iteT ⟨_, rfl, fun q hq => kb H1 q S1 hq⟩)
        | dct _ => exact iteT (iteT ⟨_, rfl, fun q hq => kb H1 q S1 hq⟩)
      obtain ⟨A, rfl, A0⟩ : ∃ A : Int, dc = .int A ∧ 0 < A := by
        cases dc with
        | int i => exact ⟨i, rfl, by have : ¬ i ≤ 0 := fun q => hb (decide_eq_true q); omega⟩
        | none => exact absurd rfl hb
        | bool _ => exact absurd rfl hb
        | str _ => exact absurd rfl hb
        | list _ => exact absurd rfl hb
        | tuple _ => exact absurd rfl hb
        | dict _ => exact absurd rfl hb
      have kG' := kG (by simpa using hb) A rfl
      obtain rfl : x = V.int A := by cases Dx; rfl
      show (if (!decide (0 ≤ A)) = true then _ else _)
      rw [decide_eq_true (show 0 ≤ A by omega)]
      refine iteF ⟨_, rfl, rfl, _, rfl, ?_⟩
      rw [decide_eq_false (show ¬ V.int A = V.int 0 from fun e => by injection e with e; omega)]
      refine iteF ?_
      refine ⟨_, rfl, _, _, rfl, Dy.same S1, fun H2 S2 => ⟨false, rfl, iteT (iteT ⟨_, rfl, fun q hq => ?_⟩)⟩⟩
      have e : stepsRes A (.dict []) = some 1 := rfl
      rw [e] at kG'
      exact kG' H2 q (S1.trans S2) hq
end
end Lk

set_option Elab.async false
set_option linter.all false
set_option maxRecDepth 100000
set_option maxHeartbeats 4000000
namespace Lk
open PySem L2
abbrev s_is_command : Stmt := top 14
abbrev N_is_command : List Str := ["machine", "value"]
abbrev P_is_command : List Str := ["machine", "value"]
theorem sc_is_command : FnScope N_is_command P_is_command (defScope s_is_command) := ⟨rfl, rfl, rfl, by decide +kernel, rfl, by decide +kernel, by decide +kernel⟩
theorem MachAt.same {C : Addr} {H H' : Hp} {m : Addr} {A : Int} {us : List (Addr × List Int)} (k : Same H H') (x : MachAt C H m A us) : MachAt C H' m A us := by
  obtain ⟨dx, t, h1, h2, h3⟩ := x
  exact ⟨dx, t, k _ _ h1, k _ _ h2, fun u hu => k _ _ (h3 u hu)⟩
/-- objects that are no lists stand -/
def NL (H H' : Hp) : Prop := ∀ a o, H a = some o → (∀ xs, o ≠ .lst xs) → H' a = some o
theorem NL.of_sb {d l : Addr} {H H' : Hp} (x : SB d l H H') (D : DealAt H d l) : NL H H' := fun a o h n => by
  obtain ⟨bs, b, y⟩ := D
  refine x a o h (fun e => ?_) fun e => ?_
  · rw [e, y.hd] at h
    exact n _ (Option.some.inj h).symm
  · rw [e, y.hl] at h
    exact n _ (Option.some.inj h).symm
theorem NL.of_same {H H' : Hp} (x : Same H H') : NL H H' := fun a o h _ => x a o h
theorem NL.trans {H H1 H2 : Hp} (x : NL H H1) (y : NL H1 H2) : NL H H2 := fun a o h n => y a o (x a o h n) n
theorem NL.upd {H : Hp} {a : Addr} {xs : List V} {o : HO} (h : H a = some (.lst xs)) : NL H (L2.upd H a o) := fun b u e n => by
  by_cases q : b = a
  · rw [q, h] at e
    exact absurd (Option.some.inj e).symm (n xs)
  · rw [upd_ne q]
    exact e
theorem MachAt.nl {C : Addr} {H H' : Hp} {m : Addr} {A : Int} {us : List (Addr × List Int)} (k : NL H H') (x : MachAt C H m A us) : MachAt C H' m A us := by
  obtain ⟨dx, t, h1, h2, h3⟩ := x
  exact ⟨dx, t, k _ _ h1 (fun _ e => by cases e), k _ _ h2 (fun _ e => by cases e), fun u hu => k _ _ (h3 u hu) (fun _ e => by cases e)⟩
theorem fld_c (A n : Int) (t : Addr) : (fldM A n t).lookup ("commands" : Str) = some (.int A) := by
  unfold fldM
  rw [lookup_putF, if_neg (by decide +kernel), lookup_putF, if_neg (by decide +kernel), lookup_putF, if_pos rfl]
theorem fld_n (A n : Int) (t : Addr) : (fldM A n t).lookup ("states" : Str) = some (.int n) := by
  unfold fldM
  rw [lookup_putF, if_neg (by decide +kernel), lookup_putF, if_pos rfl]
theorem fld_s (A n : Int) (t : Addr) : (fldM A n t).lookup ("steps" : Str) = some (.ref t) := by
  unfold fldM
  rw [lookup_putF, if_pos rfl]
/-- the index of the first entry that is no command -/
def badV (A : Int) : List PyData → Nat → Option Nat
  | [], _ => none
  | e :: r, i => if isB A e = true then badV A r (i + 1) else some i
def rowRes (A : Int) (d : PyData) : Option Nat := if isS d = false then some 0 else badV A (itemsD d) 0
theorem badV_cons {A : Int} {e : PyData} {r : List PyData} {i : Nat} : badV A (e :: r) i = if isB A e = true then badV A r (i + 1) else some i := rfl
theorem badV_none {A : Int} : ∀ {ds : List PyData} {i : Nat}, badV A ds i = none → ds.all (isB A) = true
  | [], _, _ => rfl
  | d :: ds, i, h => by
    rw [badV_cons] at h
    by_cases hE : isB A d = true
    · rw [if_pos hE] at h
      rw [List.all_cons, hE, badV_none h] <;> rfl
    · rw [if_neg hE] at h
      cases h
def spState (CM : Addr) : Sp := fun vs H Q _ => ∃ (m : Addr) (x : V) (d : PyData) (A : Int) (us : List (Addr × List Int)), vs = [.ref m, x] ∧ MachAt CM H m A us ∧ Dv H x d ∧ ∀ H', Same H H' → Q (.bl (isB (us.length : Int) d)) H'
def spCommand (CM : Addr) : Sp := fun vs H Q _ => ∃ (m : Addr) (x : V) (d : PyData) (A : Int) (us : List (Addr × List Int)), vs = [.ref m, x] ∧ MachAt CM H m A us ∧ Dv H x d ∧ ∀ H', Same H H' → Q (.bl (isB A d)) H'
def intsD (d : PyData) : List Int := (itemsD d).map intD
def spChecked (CM CE : Addr) : Sp := fun vs H Q E => ∃ (m : Addr) (x : V) (d : PyData) (A : Int) (us : List (Addr × List Int)), vs = [.ref m, x] ∧ MachAt CM H m A us ∧ Dv H x d ∧ (itemsD d).length ≤ 1000 ∧
  match rowRes A d with
  | some k => ∀ H' q, Same H H' → H' q = none → E (.ref CE) (some q) (upd H' q (.xd [(("at" : Str), .int (k : Int))]))
  | none => ∀ H' t, Same H H' → H' t = some (.tup ((intsD d).map V.int)) → Q (.ref t) H'
section
variable {P : Program} {w : World} {K : PySem.W.Frag} {mg : Str → Option Value} {base : Heap} {CM : Addr}
theorem ok_command {f fb : Addr} {fd fdb : FuncData} (A0 : Df K mg "is_command" s_is_command f fd P_is_command) (d_is_below : Df K mg "is_below" s_is_below fb fdb P_is_below) (G_is_below : FnOk P w K mg base CX0 3 fb fdb P_is_below spBelowS) (TC : TxC K CM) : FnOk P w K mg base CX0 4 f fd P_is_command (spCommand CM) := by
  refine A0.F.ok sc_is_command (fun vs H Q E h => ?_) (fun cdv Ar outer s H vs Q E hr h => ?_)
  · obtain ⟨m, x, d, A, us, rfl, _⟩ := h
    rfl
  · obtain ⟨m, x, d, A, us, rfl, M, D, k⟩ := h
    refine ⟨_, (pss_one (ps_ret (pe_call G_is_below (hr.mono (by decide)) rfl d_is_below.g d_is_below.F.kp d_is_below.b .nil pass0 (pa_cons (pv 1) (pa_cons (pe_fld (pv 0) rfl) pa_nil))))), ?_⟩
    obtain ⟨dx, t, h1, h2, h3⟩ := M
    exact ⟨_, rfl, _, rfl, m, CM, dx, _, _, rfl, h1, TC.cl, TC.n1, fld_c _ _ _, x, d, _, rfl, D, k⟩
end
end Lk

set_option Elab.async false
set_option linter.all false
set_option maxRecDepth 100000
set_option maxHeartbeats 4000000
namespace Lk
open PySem L2
/-! ### what is told of a machine -/
/-- a machine's data: A commands, rows of states -/
structure MOk (A : Int) (us : List (Addr × List Int)) : Prop where
  a0 : 0 < A
  a1 : A ≤ 1000
  n1 : us.length ≤ 1000
  rs : Rs A.toNat (rsOf us)
theorem rsOf_len (us : List (Addr × List Int)) : (rsOf us).length = us.length := List.length_map ..
/-- the column of a command -/
def col (rs : List (List Int)) (c : Nat) : List Int := rs.map fun r => r.getD c 0
theorem inB {A : Int} {ds : List PyData} (h : ds.all (isB A) = true) : ∀ c ∈ ds.map intD, 0 ≤ c ∧ c < A := fun c hc => by
  obtain ⟨d, hd, rfl⟩ := List.mem_map.mp hc
  have q := List.all_eq_true.mp h d hd
  cases d with
  | int i =>
    have q' : (decide (0 ≤ i) && decide (i < A)) = true := q
    rw [Bool.and_eq_true] at q'
    exact ⟨of_decide_eq_true q'.1, of_decide_eq_true q'.2⟩
  | none => cases q
  | bool _ => cases q
  | str _ => cases q
  | list _ => cases q
  | tuple _ => cases q
  | dict _ => cases q
theorem rowRes_in {A : Int} {d : PyData} (h : rowRes A d = none) : ∀ c ∈ intsD d, 0 ≤ c ∧ c < A := by
  unfold rowRes at h
  by_cases hs : isS d = false
  · rw [if_pos hs] at h
    cases h
  · rw [if_neg hs] at h
    exact inB (badV_none h)
theorem effs_nil (rs : List (List Int)) : effs rs [] = rng rs.length := rfl
theorem effs_snoc {A : Nat} {rs : List (List Int)} (x : Rs A rs) {ns : List Int} {c : Int} (h : ∀ z ∈ ns, 0 ≤ z ∧ z < (A : Int)) (c0 : 0 ≤ c) : comp (effs rs ns) (col rs c.toNat) = effs rs (ns ++ [c]) := by
  unfold comp effs
  rw [List.map_map]
  refine List.map_congr_left fun s hs => ?_
  have hs' := List.mem_range.mp hs
  have hl := x.led (ns := ns) (s := (s : Int)) (by omega) (by omega) h
  show (col rs c.toNat).getD (led rs (s : Int) ns).toNat 0 = led rs (s : Int) (ns ++ [c])
  have e : led rs (s : Int) (ns ++ [c]) = stp rs (led rs (s : Int) ns) c := by
    unfold led
    rw [List.foldl_append]
    rfl
  rw [e]
  unfold stp col
  have hi := item_of hl.1 hl.2 ([] : List Int)
  rw [List.getD_eq_getElem?_getD, List.getElem?_map, hi]
  rfl
def spEnd (CM CR CW : Addr) : Sp := fun vs H Q E => ∃ (m : Addr) (x y : V) (dx dy : PyData) (A : Int) (us : List (Addr × List Int)), vs = [.ref m, x, y] ∧ MachAt CM H m A us ∧ MOk A us ∧ Dv H x dx ∧ Dv H y dy ∧ (itemsD dy).length ≤ 1000 ∧
  (isB (us.length : Int) dx = false → ∀ H' q, Same H H' → H' q = none → E (.ref CR) (some q) (upd H' q (.xd [(("at" : Str), .int 0)]))) ∧
  (isB (us.length : Int) dx = true → match rowRes A dy with
    | some k => ∀ H' q, Same H H' → H' q = none → E (.ref CW) (some q) (upd H' q (.xd [(("at" : Str), .int (k : Int))]))
    | none => ∀ H', Same H H' → Q (.int (led (rsOf us) (intD dx) (intsD dy))) H')
def spResting (CM : Addr) : Sp := fun vs H Q _ => ∃ (m : Addr) (A : Int) (us : List (Addr × List Int)), vs = [.ref m] ∧ MachAt CM H m A us ∧ us.length ≤ 1000 ∧ ∀ t, H t = none → Q (.ref t) (upd H t (.tup ((rng us.length).map V.int)))
def spEffects (CM : Addr) : Sp := fun vs H Q _ => ∃ (m : Addr) (A : Int) (us : List (Addr × List Int)), vs = [.ref m] ∧ MachAt CM H m A us ∧ MOk A us ∧
  ∀ H' t (ts : List (Addr × List Int)), Same H H' → H' t = some (.tup (ts.map fun u => V.ref u.1)) → (ts.length : Int) = A → (∀ u ∈ ts, H' u.1 = some (.tup (u.2.map V.int))) → (∀ (i : Nat) u, ts[i]? = some u → u.2 = col (rsOf us) i) → Q (.ref t) H'
def spFollowed : Sp := fun vs H Q _ => ∃ (a b : Addr) (f g : List Int), vs = [.ref a, .ref b] ∧ H a = some (.tup (f.map V.int)) ∧ H b = some (.tup (g.map V.int)) ∧ f.length ≤ 1000 ∧ (∀ z ∈ f, 0 ≤ z ∧ z < (g.length : Int)) ∧
  ∀ H' t, Same H H' → H' t = some (.tup ((comp f g).map V.int)) → Q (.ref t) H'
def spEff (CM CW : Addr) : Sp := fun vs H Q E => ∃ (m : Addr) (y : V) (dy : PyData) (A : Int) (us : List (Addr × List Int)), vs = [.ref m, y] ∧ MachAt CM H m A us ∧ MOk A us ∧ Dv H y dy ∧ (itemsD dy).length ≤ 1000 ∧
  match rowRes A dy with
  | some k => ∀ H' q, Same H H' → H' q = none → E (.ref CW) (some q) (upd H' q (.xd [(("at" : Str), .int (k : Int))]))
  | none => ∀ H' t, Same H H' → H' t = some (.tup ((effs (rsOf us) (intsD dy)).map V.int)) → Q (.ref t) H'
def spEop (CM CW : Addr) : Sp := fun vs H Q E => ∃ (m : Addr) (y : V) (dy : PyData) (A : Int) (us : List (Addr × List Int)) (n : Nat), vs = [.ref m, y, .int (n : Int)] ∧ MachAt CM H m A us ∧ MOk A us ∧ Dv H y dy ∧ (itemsD dy).length ≤ 1000 ∧ n < 2 ^ 63 ∧
  match rowRes A dy with
  | some k => ∀ H' q, Same H H' → H' q = none → E (.ref CW) (some q) (upd H' q (.xd [(("at" : Str), .int (k : Int))]))
  | none => ∀ H' t, Same H H' → H' t = some (.tup ((powG 63 n (effs (rsOf us) (intsD dy)) (rng us.length)).map V.int)) → Q (.ref t) H'
section
variable {P : Program} {w : World} {K : PySem.W.Frag} {mg : Str → Option Value} {base : Heap} {CM CR CW : Addr}
end
end Lk

set_option Elab.async false
set_option linter.all false
set_option maxRecDepth 100000
set_option maxHeartbeats 4000000
namespace PySem.W
open PySem PySem.Calls PyProof.Rows
section
variable {prog : Program} {w : World} {A : Around} {E : Value → Shared → Prop} {s : Shared} {K : Frag} {h₀ : Heap} {L x C f : Addr} {m : Str → Option Value} {ox : Obj} {od : Option Obj} {b tb : Value}
/-- what != makes of an own == -/
def NeB (Q : Value → Shared → Prop) (v : Value) (s' : Shared) : Prop := ∃ c : Bool, v = .bool c ∧ Q (.bool (!c)) s'
theorem boundB {M : Model} {name : Str} {id : String} {args : List Value} {Q : Option Value → Shared → Prop} (X : K.In s.heap)
    (I : InstAt s.heap x ox C od) (hs : findIn K (.ref C) name = some (some (.builtin id))) (S : Slot "object" name id)
    (h : wpAny M A (call (.builtin id) (.ref x :: args)) (fun v => Q (some v)) E s) :
    wpAny M A (callSpecialIfBound? (.ref x) name args) Q E s := by
  simp only [callSpecialIfBound?, bindSpecialIfBound?]
  refine wpAny_holding (wpAny_bind (wpAny_bind (wpAny_bind (I.type.here ((looks_findIn X hs).here ?_)))))
  simp only [S.bind]
  refine wpAny_bind (wpAny_askSetting (wpAny_ite ?_))
  have fin : wpAny M A (call (.builtin id) ([.ref x] ++ args) >>= fun v => pure (some v)) Q E s :=
    wpAny_bind (wpAny_mono h (fun v s' h' => wpAny_pure h') fun _ _ h' => h')
  split
  · exact wpAny_bind (wpAny_pure (wpAny_pure fin))
  · exact wpAny_tryCatch (wpAny_bind (wpAny_pure (wpAny_pure fin)))
theorem ne_body {Q : Fin → Shared → Prop} (hu : A.units < cLine) (X : K.In s.heap) (I : InstAt s.heap x ox C od)
    (hq : findIn K (.ref C) "__eq__" = some (some (.ref f))) (hf : isFn K (.ref f) = true)
    (h : wpAny (model prog w) A (call (.ref f) [.ref x, b]) (fun v s' => ∃ c : Bool, v = .bool c ∧ Q (.done (.ret (.bool (!c)))) s') E s) :
    wpAny (model prog w) A (Builtin.«object.__ne__» ⟨[.ref x, b], []⟩) Q E s := by
  unfold Builtin.«object.__ne__»
  refine wpAny_bind (wpAny_of_eq (a := ((Value.ref x : Value), [b])) (by first | rfl | (simp only [slotArgs]; rfl)) ?_)
  refine wpAny_bind (wpAny_cRoomFor hu ?_)
  refine wpAny_bind (ifBound_K X I hq hf (wpAny_mono h (fun v s' hv => ?_) fun _ _ e => e))
  obtain ⟨c, rfl, q⟩ := hv
  show wpAny _ _ (do let r ← truthy (.bool c); ret (.bool (!r))) _ _ _
  exact wpAny_bind (wpAny_truthy_bool (wpAny_pure q))
theorem ne_K {Q : Value → Shared → Prop} (hu : A.units + 1 < cLine) (F : Fr h₀ L s.heap m) (X₀ : K.In h₀)
    (I : InstAt s.heap x ox C od) (hb : Looks (model prog w) s.heap (typeOf b) tb) (hn : notFirst K C tb = true)
    (hs : findIn K (.ref C) "__ne__" = some (some (.builtin "object.__ne__")))
    (ho : mroIn K C (.type "object") = some true)
    (hq : findIn K (.ref C) "__eq__" = some (some (.ref f))) (hf : isFn K (.ref f) = true)
    (h : wpAny (model prog w) A.in1 (call (.ref f) [.ref x, b]) (NeB Q) E s) :
    wpAny (model prog w) A (richCompare .NotEq (.ref x) b) Q E s := by
  have X := X₀.keeps F.keep
  have sub : Looks (model prog w) s.heap (isInstance (.ref x) (.type "object")) true := I.type.andThen (looks_mroIn X ho)
  have one : wpAny (model prog w) A (tryCompare (.ref x) (cmpInfo .NotEq).2.1 b) (fun r s' => ∃ v, r = some v ∧ Q v s') E s := by
    unfold tryCompare
    refine wpAny_bind (boundB X I hs PySem.F.cmp_object.ne (wpAny_call (codeAny_call_builtin PySem.F.cmp_object.ne.plain PySem.F.cmpEntry_ne
      (check_slot PySem.F.cmpKind_ne PySem.F.cmpSplit_ne sub (PySem.F.cmpArgs_ne _ _) (ne_body (A := A.in1) hu X I hq hf ?_)))))
    refine wpAny_mono h (fun v s' hv => ?_) fun _ _ e => e
    obtain ⟨c, rfl, q⟩ := hv
    exact ⟨c, rfl, wpAny_pure ⟨_, rfl, q⟩⟩
  unfold richCompare
  simp only [oneThing_ref]
  refine wpAny_holding (wpAny_bind (wpAny_cRoomFor (Nat.lt_of_succ_lt hu) ?_))
  refine wpAny_bind (I.type.here (wpAny_bind (hb.here ?_)))
  split
  · rename_i q
    have e : subIn K tb (.ref C) = some false := by
      rcases Bool.or_eq_true_iff.mp hn with e | e
      · rw [beq_iff_eq.mp e] at q
        simp at q
      · exact beq_iff_eq.mp e
    refine wpAny_bind ((looks_subIn X e).here ?_)
    simp only [Bool.false_eq_true, if_false]
    refine wpAny_bind (wpAny_mono one (fun r s' z => ?_) fun _ _ e => e)
    obtain ⟨v, rfl, hq⟩ := z
    exact wpAny_pure hq
  · refine wpAny_bind (wpAny_pure ?_)
    simp only [Bool.false_eq_true, if_false]
    refine wpAny_bind (wpAny_mono one (fun r s' z => ?_) fun _ _ e => e)
    obtain ⟨v, rfl, hq⟩ := z
    exact wpAny_pure hq
end
end PySem.W

set_option Elab.async false
set_option linter.all false
set_option maxRecDepth 100000
set_option maxHeartbeats 4000000
namespace Lk
open PySem L2
abbrev s_Machine___eq : Stmt := inClass (top 12) 1
abbrev N_Machine___eq : List Str := ["self", "other"]
abbrev P_Machine___eq : List Str := ["self", "other"]
theorem sc_Machine___eq : FnScope N_Machine___eq P_Machine___eq (defScope s_Machine___eq) := ⟨rfl, rfl, rfl, by decide +kernel, rfl, by decide +kernel, by decide +kernel⟩
/-- what the top says of the class for isinstance and == -/
structure TxE (K : PySem.W.Frag) (mg : Str → Option Value) (C fE : Addr) : Prop where
  g : mg "Machine" = some (.ref C)
  ha : PySem.W.findIn K (.ref C) "__class__" = some (some (.builtin "object.__class__"))
  hn : PySem.W.specialIn K (.builtin "object.__class__") "__get__" = some (some (.builtin "getset_descriptor.__get__"))
  htk : PySem.W.takesIn K (.builtin "object.__class__") = some true
  hm : PySem.W.mroIn K C (.type "object") = some true
  kS : PySem.W.kitOne K (.type "str") (.ref C) = some false
  kT : PySem.W.kitOne K (.type "tuple") (.ref C) = some false
  kC : PySem.W.kitOne K (.ref C) (.ref C) = some true
  sS : PySem.W.subIn K (.type "str") (.ref C) = some false
  sT : PySem.W.subIn K (.type "tuple") (.ref C) = some false
  eq : PySem.W.findIn K (.ref C) "__eq__" = some (some (.ref fE))
  isf : PySem.W.isFn K (.ref fE) = true
  ne : PySem.W.findIn K (.ref C) "__ne__" = some (some (.builtin "object.__ne__"))
/-- the right side of == -/
inductive Rt (C : Addr) (H : Hp) : V → Option (Int × List (Addr × List Int)) → Prop
  | str (z : Str) : Rt C H (.str z) none
  | tup {a : Addr} {xs : List V} (h : H a = some (.tup xs)) : Rt C H (.ref a) none
  | mach {a : Addr} {A : Int} {us : List (Addr × List Int)} (h : MachAt C H a A us) : Rt C H (.ref a) (some (A, us))
def rowsEq (A : Int) (us : List (Addr × List Int)) : Option (Int × List (Addr × List Int)) → Bool
  | none => false
  | some (B, vs) => decide (A = B) && decide (rsOf us = rsOf vs)
def spEqM (CM : Addr) : Sp := fun vs H Q _ => ∃ (m : Addr) (y : V) (A : Int) (us : List (Addr × List Int)) (o : Option (Int × List (Addr × List Int))), vs = [.ref m, y] ∧ MachAt CM H m A us ∧ Rt CM H y o ∧ Q (.bl (rowsEq A us o)) H
def rowP (r : List Int) : PyData := .tuple (r.map PyData.int)
theorem eqv_ints : ∀ a b : List Int, PyData.eqvAll (a.map PyData.int) (b.map PyData.int) = decide (a = b)
  | [], [] => rfl
  | [], _ :: _ => rfl
  | _ :: _, [] => rfl
  | x :: a, y :: b => by
    show ((x == y) && PyData.eqvAll (a.map PyData.int) (b.map PyData.int)) = _
    rw [eqv_ints a b]
    by_cases h : x = y
    · by_cases h2 : a = b
      · rw [h, h2]
        simp
      · rw [decide_eq_false h2, Bool.and_false]
        exact (decide_eq_false fun e => h2 (by injection e)).symm
    · have e : (x == y) = false := by simpa using h
      rw [e, Bool.false_and]
      exact (decide_eq_false fun e => h (by injection e)).symm
theorem eqv_rows : ∀ a b : List (List Int), PyData.eqvAll (a.map rowP) (b.map rowP) = decide (a = b)
  | [], [] => rfl
  | [], _ :: _ => rfl
  | _ :: _, [] => rfl
  | x :: a, y :: b => by
    show (PyData.eqvAll (x.map PyData.int) (y.map PyData.int) && PyData.eqvAll (a.map rowP) (b.map rowP)) = _
    rw [eqv_ints x y, eqv_rows a b]
    by_cases h : x = y
    · by_cases h2 : a = b
      · rw [h, h2]
        simp
      · rw [decide_eq_false h2, Bool.and_false]
        exact (decide_eq_false fun e => h2 (by injection e)).symm
    · rw [decide_eq_false h, Bool.false_and]
      exact (decide_eq_false fun e => h (by injection e)).symm
theorem canLay_rows : ∀ a : List (List Int), PyData.canLayAll0 (a.map rowP) = true
  | [] => rfl
  | x :: a => by
    show (PyData.canLayAll0 (x.map PyData.int) && PyData.canLayAll0 (a.map rowP)) = true
    rw [canLay_ints, canLay_rows a] <;> rfl
theorem depth_rows : ∀ a : List (List Int), PyData.depthAll (a.map rowP) ≤ 2
  | [] => by decide
  | x :: a => by
    have h := depth_rows a
    have h2 := depth_ints x
    show max (PyData.depth (rowP x)) (PyData.depthAll (a.map rowP)) ≤ 2
    have e : PyData.depth (rowP x) = PyData.depthAll (x.map PyData.int) + 1 := rfl
    omega
theorem shaped_rows (a : List (List Int)) : SeqAt.shaped (.tuple (a.map rowP)) = true := by
  have h1 : PyData.canLay0 (.tuple (a.map rowP)) = true := canLay_rows a
  have h2 : PyData.depth (.tuple (a.map rowP)) = PyData.depthAll (a.map rowP) + 1 := rfl
  have h3 := depth_rows a
  unfold SeqAt.shaped
  rw [h1, Bool.true_and]
  exact decide_eq_true (by omega)
theorem dp_rows {K : PySem.W.Frag} {H : Hp} : ∀ {us : List (Addr × List Int)}, (∀ u ∈ us, H u.1 = some (.tup (u.2.map V.int))) → DpAll K H (us.map fun u => V.ref u.1) ((rsOf us).map rowP)
  | [], _ => .nil
  | u :: us, h => .cons (.tup (SqT.of (h u List.mem_cons_self)) (dpAll_ints _)) (dp_rows fun v hv => h v (List.mem_cons_of_mem _ hv))
section
variable {P : Program} {w : World} {K : PySem.W.Frag} {mg : Str → Option Value} {base : Heap} {CM fE : Addr}
theorem ok_eq {f : Addr} {fd : FuncData} (F : Fun K "__eq__" "Machine.__eq__" s_Machine___eq f fd) (T : Txt mg) (TC : TxC K CM) (TE : TxE K mg CM fE) : FnOk P w K mg base CX0 1 f fd P_Machine___eq (spEqM CM) := by
  refine F.ok sc_Machine___eq (fun vs H Q E h => ?_) (fun cdv Ar outer s H vs Q E hr h => ?_)
  · obtain ⟨m, y, A, us, o, rfl, _⟩ := h
    rfl
  · obtain ⟨m, y, A, us, o, rfl, M, R, k⟩ := h
    have hu : Ar.units + 3 + 64 < cLine := by have := hr.un; simp only [Around.deeper] at this; omega
    refine ⟨_, (pss_one (ps_ret (pe_and (pe_callB call_isi (by rfl) T.isinstance PyProof.Rows.boot_isinstance (pa_cons (pv 1) (pa_cons (pe_glob (v := .ref CM) (by rfl) TE.g rfl) pa_nil)))
      (pe_and (pe_cmpR op_eq (pe_fld (pv 0) rfl) (pe_fld (pv 1) rfl) (nomark _)) (pe_one (pe_cmpR (op_eqD hu) (pe_fld (pv 0) rfl) (pe_fld (pv 1) rfl) (nomark _))))))), ?_⟩
    cases R with
    | str z => exact ⟨_, rfl, _, _, _, _, false, rfl, .own _, .base (.str z), TE.kS, false, rfl, iteF k⟩
    | tup h => exact ⟨_, rfl, _, _, _, _, false, rfl, .own _, .base (.tup h), TE.kT, false, rfl, iteF k⟩
    | @mach b B vs h =>
      obtain ⟨dx, t, h1, h2, h3⟩ := M
      obtain ⟨dx', t', h1', h2', h3'⟩ := h
      refine ⟨_, rfl, _, _, _, _, true, rfl, .own _, .base (.ins h1' TC.cl TE.ha TE.hn TE.htk TE.hm), TE.kC, true, rfl, iteT ?_⟩
      refine ⟨_, rfl, m, CM, dx, _, _, rfl, h1, TC.cl, TC.n1, fld_c _ _ _, _, rfl, b, CM, dx', _, _, rfl, h1', TC.cl, TC.n1, fld_c _ _ _, rfl, _, rfl, ?_⟩
      have hk : Q (.bl (decide (A = B) && decide (rsOf us = rsOf vs))) H := k
      by_cases hAB : A = B
      · rw [decide_eq_true hAB, Bool.true_and] at hk
        rw [decide_eq_true (show V.int A = V.int B by rw [hAB])]
        refine iteT ⟨_, rfl, m, CM, dx, _, _, rfl, h1, TC.cl, TC.n3, fld_s _ _ _, _, rfl, b, CM, dx', _, _, rfl, h1', TC.cl, TC.n3, fld_s _ _ _, _, _, Dp.tup (SqT.of h2) (dp_rows h3), Dp.tup (SqT.of h2') (dp_rows h3'), shaped_rows _, shaped_rows _, ?_⟩
        rw [show PyData.eqv (.tuple ((rsOf us).map rowP)) (.tuple ((rsOf vs).map rowP)) = PyData.eqvAll ((rsOf us).map rowP) ((rsOf vs).map rowP) from rfl, eqv_rows]
        exact hk
      · rw [decide_eq_false hAB, Bool.false_and] at hk
        rw [decide_eq_false (show ¬ V.int A = V.int B from fun e => hAB (by injection e))]
        exact iteF hk
/-! ### == and != of machines, as operators -/
def rMq (CM : Addr) (neg : Bool) : R2 := fun x y H Q => ∃ (m : Addr) (A : Int) (us : List (Addr × List Int)) (o : Option (Int × List (Addr × List Int))), x = .ref m ∧ MachAt CM H m A us ∧ Rt CM H y o ∧ Q (.bl (if neg then !(rowsEq A us o) else rowsEq A us o)) H
theorem rt_type {X : Cx} {pins : List (Addr × Obj)} {σ : St} {H : Hp} {s : Shared} {y : V} {v : Value} {o : Option (Int × List (Addr × List Int))} (I : Inv X pins σ H s) (r : RelV y v) (R : Rt CM H y o) (TE : TxE X.K X.mg CM fE) :
    ∃ tb, PySem.W.Looks (model X.prog X.w) s.heap (typeOf v) tb ∧ PySem.W.notFirst X.K CM tb = true := by
  cases R with
  | str z =>
    obtain ⟨t, rfl⟩ := (show ∃ t, v = Value.str z t from r)
    exact ⟨.type "str", .now, by unfold PySem.W.notFirst; rw [TE.sS] <;> rfl⟩
  | @tup a xs h =>
    cases (show v = Value.ref a from r)
    obtain ⟨_, _, _, ob, h1, h2, _⟩ := (show ObjOk X.prog X.w H s.heap a (.tup xs) from I.hok a _ h)
    refine ⟨.type "tuple", fun A Q E s k q => wpAny_typeOf_ref (k _ _ h1) (by rw [h2]; exact q), by unfold PySem.W.notFirst; rw [TE.sT] <;> rfl⟩
  | @mach a A us h =>
    cases (show v = Value.ref a from r)
    obtain ⟨dx, t, h1, _⟩ := h
    obtain ⟨mA, J, _⟩ := ins_get I.hok h1
    obtain ⟨od, J, _⟩ := J.look
    exact ⟨.ref CM, J.type, by simp [PySem.W.notFirst]⟩
section
variable {X : Cx} {f : Addr} {fd : FuncData} {ps : List Str}
theorem run_eq {A : Around} {pins : List (Addr × Obj)} {σ : St} {H : Hp} {s : Shared} {m : Addr} {y : V} {v : Value} {M : Int} {us : List (Addr × List Int)} {o : Option (Int × List (Addr × List Int))} {Q : VK} (F : FnOk X.prog X.w X.K X.mg X.base CX0 1 fE fd P_Machine___eq (spEqM CM)) (hb : Binds X.K fd P_Machine___eq [])
    (hr : Room 1 A) (hfr : A.frames = X.A.frames) (I : Inv X pins σ H s) (r : RelV y v) (MA : MachAt CM H m M us) (R : Rt CM H y o) (q : Q (.bl (rowsEq M us o)) H) :
    wpAny (model X.prog X.w) A (call (.ref fE) [.ref m, v]) (fun u s' => u = .bool (rowsEq M us o) ∧ ∃ H', Inv X pins σ H' s' ∧ Q (.bl (rowsEq M us o)) H') X.xe s := by
  have hsp : spEqM CM [.ref m, y] H (fun z H' => z = .bl (rowsEq M us o) ∧ Q (.bl (rowsEq M us o)) H') (fun _ _ _ => False) := ⟨m, y, M, us, o, rfl, MA, R, rfl, q⟩
  have e0 : Env0 X.prog X.w X.K X.mg X.base A X.stack s H := by
    have e := I.env0
    exact ⟨by rw [hfr]; exact e.frames, e.mod, e.bs, e.bsz, e.funs, e.frf, e.hok, e.bare⟩
  have r2 : Vals [V.ref m, y] [Value.ref m, v] := .cons rfl (.cons r .nil)
  refine wpAny_call (codeAny_mono (F.run A X.stack s H ⟨[.ref m, v], []⟩ [.ref m, v] [.ref m, y] _ _ hr e0 (by
    have := hb s [.ref m, v] I.kIn (by rfl)
    simpa using this) r2 hsp) fun r s' hq => ?_)
  cases r with
  | error e => exact False.elim hq
  | ok fl =>
    cases fl with
    | ret u =>
      obtain ⟨z, H', I', rz, ez, ex⟩ := I.after hq
      subst ez
      cases rz
      exact ⟨rfl, H', I', ex⟩
    | next => exact False.elim hq
    | brk => exact False.elim hq
    | cont => exact False.elim hq
theorem op_eqM (F : FnOk X.prog X.w X.K X.mg X.base CX0 1 fE fd P_Machine___eq (spEqM CM)) (hb : Binds X.K fd P_Machine___eq []) (TE : TxE X.K X.mg CM fE) (hr : Room 1 X.A) : OpR X (compareOp .Eq) (rMq CM false) := by
  intro pins s σ H x y v u Q I rx ry h
  obtain ⟨m, A, us, o, rfl, M, R, q⟩ := h
  cases (show v = Value.ref m from rx)
  obtain ⟨tb, ht, hn⟩ := rt_type I ry R TE
  obtain ⟨dx, t, h1, _⟩ := id M
  obtain ⟨mA, J, _⟩ := ins_get I.hok h1
  obtain ⟨od, J, _⟩ := J.look
  obtain ⟨mm, hF⟩ := I.fr
  refine PySem.W.cmp_ofEq (PySem.W.cmp_K (op := .Eq) (tb := tb) hr.units0 hF I.ok.mod.kin J ht hn TE.eq TE.isf ?_)
  refine wpAny_mono (run_eq F hb hr rfl I ry M R q) (fun u s' hu => ?_) fun _ _ z => z
  obtain ⟨rfl, H', I', q'⟩ := hu
  exact ⟨.bl _, H', I', rfl, q'⟩
theorem op_neM (F : FnOk X.prog X.w X.K X.mg X.base CX0 1 fE fd P_Machine___eq (spEqM CM)) (hb : Binds X.K fd P_Machine___eq []) (TE : TxE X.K X.mg CM fE) (hr : Room 2 X.A) : OpR X (compareOp .NotEq) (rMq CM true) := by
  intro pins s σ H x y v u Q I rx ry h
  obtain ⟨m, A, us, o, rfl, M, R, q⟩ := h
  cases (show v = Value.ref m from rx)
  obtain ⟨tb, ht, hn⟩ := rt_type I ry R TE
  obtain ⟨dx, t, h1, _⟩ := id M
  obtain ⟨mA, J, _⟩ := ins_get I.hok h1
  obtain ⟨od, J, _⟩ := J.look
  obtain ⟨mm, hF⟩ := I.fr
  have hu := hr.un
  have hr1 : Room 1 X.A.in1 := ⟨hr.hd, by have := hr.dp; show X.A.depth + 3 * 1 + 5 < _; omega, by show X.A.units + 1 + 16 * 1 + 200 < cLine; omega⟩
  refine PySem.W.cmp_ofNotEq (PySem.W.ne_K (tb := tb) (by omega) hF I.ok.mod.kin J ht hn TE.ne TE.hm TE.eq TE.isf ?_)
  refine wpAny_mono (run_eq (Q := fun z H' => Q (.bl (!(rowsEq A us o))) H') F hb hr1 rfl I ry M R q) (fun u s' hu => ?_) fun _ _ z => z
  obtain ⟨rfl, H', I', q'⟩ := hu
  exact ⟨_, rfl, .bl _, H', I', rfl, q'⟩
end
end
end Lk

set_option Elab.async false
set_option linter.all false
set_option maxRecDepth 100000
set_option maxHeartbeats 4000000
namespace Lk
open PySem L2
/-! ### what a machine is made of -/
theorem dvAll_ints {H : Hp} : ∀ ns : List Int, DvAll H (ns.map V.int) (ns.map PyData.int)
  | [] => .nil
  | _ :: ns => .cons (.int _) (dvAll_ints ns)
def lstP (r : List Int) : PyData := .list (r.map PyData.int)
theorem dv_rowsL {H : Hp} : ∀ {ts : List (Addr × List Int)}, (∀ t ∈ ts, H t.1 = some (.lst (t.2.map V.int))) → DvAll H (ts.map fun t => V.ref t.1) ((rsOf ts).map lstP)
  | [], _ => .nil
  | t :: ts, h => .cons (.lst (h t List.mem_cons_self) (dvAll_ints _)) (dv_rowsL fun u hu => h u (List.mem_cons_of_mem _ hu))
theorem dv_rowsT {H : Hp} : ∀ {ts : List (Addr × List Int)}, (∀ t ∈ ts, H t.1 = some (.tup (t.2.map V.int))) → DvAll H (ts.map fun t => V.ref t.1) ((rsOf ts).map rowP)
  | [], _ => .nil
  | t :: ts, h => .cons (.tup (h t List.mem_cons_self) (dvAll_ints _)) (dv_rowsT fun u hu => h u (List.mem_cons_of_mem _ hu))
theorem isB_ints {n : Int} : ∀ {r : List Int}, (∀ z ∈ r, 0 ≤ z ∧ z < n) → (r.map PyData.int).all (isB n) = true
  | [], _ => rfl
  | z :: r, h => by
    obtain ⟨h0, h1⟩ := h z List.mem_cons_self
    have e : isB n (.int z) = true := by
      show (decide (0 ≤ z) && decide (z < n)) = true
      rw [decide_eq_true h0, decide_eq_true h1] <;> rfl
    rw [List.map_cons, List.all_cons, e, isB_ints fun y hy => h y (List.mem_cons_of_mem _ hy)] <;> rfl
theorem intD_ints : ∀ r : List Int, (r.map PyData.int).map intD = r
  | [] => rfl
  | z :: r => by
    rw [List.map_cons, List.map_cons, intD_ints r] <;> rfl
theorem isE_lst {A : Nat} {n : Int} {r : List Int} (h : r.length = A ∧ ∀ z ∈ r, 0 ≤ z ∧ z < n) : isE A n (lstP r) = true := by
  show (true && (decide (((r.map PyData.int).length : Int) = A) && (r.map PyData.int).all (isB n))) = true
  rw [isB_ints h.2, List.length_map, h.1]
  simp
theorem isE_tup {A : Nat} {n : Int} {r : List Int} (h : r.length = A ∧ ∀ z ∈ r, 0 ≤ z ∧ z < n) : isE A n (rowP r) = true := by
  show (true && (decide (((r.map PyData.int).length : Int) = A) && (r.map PyData.int).all (isB n))) = true
  rw [isB_ints h.2, List.length_map, h.1]
  simp
theorem badAt_all {A n : Int} : ∀ {ds : List PyData} {i : Nat}, (∀ e ∈ ds, isE A n e = true) → badAt A n ds i = none
  | [], _, _ => rfl
  | d :: ds, i, h => by
    rw [badAt_cons, if_pos (h d List.mem_cons_self)]
    exact badAt_all fun e he => h e (List.mem_cons_of_mem _ he)
theorem stepsRes_ok {A : Int} {d : PyData} (h1 : isS d = true) (h2 : itemsD d ≠ []) (h3 : ∀ e ∈ itemsD d, isE A ((itemsD d).length : Int) e = true) : stepsRes A d = none := by
  unfold stepsRes
  rw [if_neg (fun q => q.elim (fun e => by rw [h1] at e; cases e) h2), badAt_all h3] <;> rfl
/-- rows, each as a list or a tuple -/
theorem stepsRes_rows {A : Nat} {rs : List (List Int)} {d : PyData} {g : List Int → PyData} (h1 : isS d = true) (h2 : itemsD d = rs.map g) (hg : ∀ (n : Int) r, r.length = A ∧ (∀ z ∈ r, 0 ≤ z ∧ z < n) → isE A n (g r) = true) (x : Rs A rs) : stepsRes A d = none := by
  refine stepsRes_ok h1 (fun e => ?_) fun e he => ?_
  · rw [h2] at e
    have := x.pos
    rw [List.map_eq_nil_iff.mp e] at this
    exact absurd this (by decide)
  · rw [h2] at he ⊢
    obtain ⟨r, hr, rfl⟩ := List.mem_map.mp he
    rw [List.length_map]
    exact hg _ r (x.row r hr)
/-- what Machine(..) makes: the number of the refusal -/
def makeRes (dc ds : PyData) : Option Int := if badC dc = true then some 0 else stepsRes (intD dc) ds
theorem make_any {CM CE : Addr} {H1 : Hp} {x y : V} {dc ds : PyData} {Q : Addr → Hp → Prop} {E : XK} (Dx : Dv H1 x dc) (Dy : Dv H1 y ds) (n1 : (itemsD ds).length ≤ 1000) (n2 : ∀ e ∈ itemsD ds, (itemsD e).length ≤ 1000)
    (h : match makeRes dc ds with
      | some k => ∀ H' q, Same H1 H' → H' q = none → E (.ref CE) (some q) (upd H' q (.xd [(("at" : Str), .int k)]))
      | none => ∀ H' m us, Same H1 H' → H1 m = none → MachAt CM H' m (intD dc) us → rsOf us = (itemsD ds).map rowD → Q m H') :
    ∀ x0 dx, H1 x0 = none → H1 dx = none → dx ≠ x0 → spInit CM CE (.ref x0 :: ([x, y] ++ [])) (upd (upd H1 dx (.own x0)) x0 (.ins CM dx [])) (fun v H2 => v = .non ∧ Q x0 H2) E := by
  intro x0 dx h0 hd hne
  have hx0 : upd H1 dx (.own x0) x0 = none := by rw [upd_ne (Ne.symm hne)]; exact h0
  have S1 : Same H1 (upd (upd H1 dx (.own x0)) x0 (.ins CM dx [])) := (Same.new hd).trans (Same.new hx0)
  refine ⟨x0, dx, x, y, dc, ds, rfl, upd_same, Dx.same S1, Dy.same S1, n1, n2, fun hb => ?_, fun hb A hA => ?_⟩
  · unfold makeRes at h
    rw [if_pos hb] at h
    exact fun H' d S' hd' => h H' d (S1.trans S') hd'
  · subst hA
    unfold makeRes at h
    rw [if_neg (by rw [hb]; decide)] at h
    have eA : intD (.int A) = A := rfl
    rw [eA] at h
    cases e : stepsRes A ds with
    | some k =>
      rw [e] at h
      exact fun H' d S' hd' => h H' d (S1.trans S') hd'
    | none =>
      rw [e] at h
      refine fun H' us kp M eR => ⟨rfl, h H' x0 us (fun a o ha => kp.get (fun q => ?_) (S1 a o ha)) h0 M eR⟩
      rw [q, h0] at ha
      cases ha
theorem pass_never {P : Program} {w : World} {X : Cx} : Passes (L2.CX P w) X E0 := fun _ _ _ _ _ _ _ ⟨_, _, _, _, _, _, _, _, _, _, _, _, he⟩ => he.elim
theorem rowD_lst (r : List Int) : rowD (lstP r) = r := intD_ints r
theorem rowD_tup (r : List Int) : rowD (rowP r) = r := intD_ints r
theorem map_rowD {g : List Int → PyData} (hg : ∀ r, rowD (g r) = r) : ∀ rs : List (List Int), (rs.map g).map rowD = rs
  | [] => rfl
  | r :: rs => by rw [List.map_cons, List.map_cons, hg, map_rowD hg rs]
/-! ### beside -/
/-- the rows of two machines side by side; rs: the rows of the first so far -/
def bR (rs2 : List (List Int)) (e f : List Int) : List Int := List.zipWith (fun s t => s * (rs2.length : Int) + t) e f
def bG' (rs2 rs : List (List Int)) : List (List Int) := rs.flatMap fun e => rs2.map (bR rs2 e)
def bG (rs1 rs2 : List (List Int)) : List (List Int) := bG' rs2 rs1
theorem Rs.beside {A : Nat} {rs1 rs2 : List (List Int)} (x : Rs A rs1) (y : Rs A rs2) : (bG rs1 rs2).length = rs1.length * rs2.length ∧ Rs A (bG rs1 rs2) := by
  have hl : (bG rs1 rs2).length = rs1.length * rs2.length := by
    unfold bG bG'
    rw [List.length_flatMap]
    simp only [List.length_map]
    rw [List.map_const', List.sum_replicate_nat]
  refine ⟨hl, by rw [hl]; exact Nat.mul_pos x.pos y.pos, fun r hr => ?_⟩
  obtain ⟨e, he, hr⟩ := List.mem_flatMap.mp hr
  obtain ⟨f, hf, rfl⟩ := List.mem_map.mp hr
  obtain ⟨e1, e2⟩ := x.row e he
  obtain ⟨f1, f2⟩ := y.row f hf
  unfold bR
  refine ⟨by rw [List.length_zipWith, e1, f1, Nat.min_self], fun z hz => ?_⟩
  obtain ⟨i, hi, rfl⟩ := List.mem_iff_getElem.mp hz
  rw [List.length_zipWith] at hi
  rw [List.getElem_zipWith, hl]
  obtain ⟨a0, a1⟩ := e2 _ (List.getElem_mem (l := e) (n := i) (by omega))
  obtain ⟨b0, b1⟩ := f2 _ (List.getElem_mem (l := f) (n := i) (by omega))
  have q1 := Int.mul_nonneg a0 (Int.natCast_nonneg rs2.length)
  have q2 : (e[i] + 1) * (rs2.length : Int) ≤ (rs1.length : Int) * (rs2.length : Int) := Int.mul_le_mul_of_nonneg_right (by omega) (by omega)
  rw [Int.add_mul] at q2
  refine ⟨by omega, ?_⟩
  rw [Int.natCast_mul]
  omega
section
variable {K : PySem.W.Frag} {te : TE} {σ : St} {H1 : Hp} {D : Addr} {Qd : Hp → Prop}
/-- a comprehension over zip of two tuples of ints of one length, into slots 5 and 6 -/
theorem lcZ {i j : Nat} {a b : Addr} {xs ys : List Int} (F : Int → Int → Int) (hl : xs.length = ys.length) (hD : H1 D = none) (hn : xs.length ≤ 1000000) (ha : SqT K H1 a (xs.map V.int)) (hb : SqT K H1 b (ys.map V.int))
    (hw : ∀ x y : V, wipe (((wipe σ [i, j]).set i (some x)).set j (some y)) [i, j] = wipe σ [i, j])
    (hs : ∀ (x y : Int) H, Same H1 H → ∀ Q : VK, (∀ H4, Same H H4 → Q (.int (F x y)) H4) → te (((wipe σ [i, j]).set i (some (.int x))).set j (some (.int y))) H Q)
    (hd : ∀ H', H' D = some (.lst ((List.zipWith F xs ys).map V.int)) → Same H1 H' → Qd H') :
    ∃ W : Nat → Nat → Hp → Prop, (∃ m, W 0 m (upd H1 D (.lst []))) ∧ ∀ k m H, W k m H →
      ((RZ.ItzT K a b).stop k H ∧ Qd H) ∨ ((RZ.ItzT K a b).go k H ∧ ∃ Nx : Hp → Prop, (∀ H', Nx H' → ∃ m', m' < m ∧ W (k + 1) m' H') ∧ ∀ x H', (RZ.ItzT K a b).yld k H x H' → gTup K 2 (gCons (gName i) (gCons (gName j) gNil)) x (wipe σ [i, j]) H' fun σ2 H2 => wipe σ2 [i, j] = wipe σ [i, j] ∧ tYes σ2 H2 fun b H3 =>
        if b = true then te σ2 H3 fun y H4 => ∃ acc, H4 D = some (.lst acc) ∧ acc.length < sizeLine ∧ Nx (upd H4 D (.lst (acc ++ [y]))) else Nx H3) := by
  refine ⟨fun k m H => m = xs.length - k ∧ k ≤ xs.length ∧ Same H1 H ∧ H D = some (.lst ((List.zipWith F (xs.take k) (ys.take k)).map V.int)), ⟨xs.length, rfl, Nat.zero_le _, (KP.new (S := fun _ => False) hD).toSame, upd_same⟩, ?_⟩
  rintro k m H ⟨rfl, hk, S, hD2⟩
  have qa := sameT S ha
  have qb := sameT S hb
  by_cases hlt : k < xs.length
  · have hlt2 : k < ys.length := by omega
    have ga : (xs.map V.int)[k]? = some (V.int xs[k]) := by rw [List.getElem?_map, List.getElem?_eq_getElem hlt] <;> rfl
    have gb : (ys.map V.int)[k]? = some (V.int ys[k]) := by rw [List.getElem?_map, List.getElem?_eq_getElem hlt2] <;> rfl
    refine .inr ⟨⟨_, _, _, _, qa, qb, ga, gb⟩, fun H => Same H1 H ∧ H D = some (.lst ((List.zipWith F (xs.take (k + 1)) (ys.take (k + 1))).map V.int)), fun H' p => ⟨xs.length - (k + 1), by omega, rfl, hlt, p.1, p.2⟩, ?_⟩
    rintro v H' ⟨T, x, y, rfl, hT, rfl, f1, f2⟩
    have ex := f1 _ qa
    rw [ga] at ex
    obtain rfl := Option.some.inj ex
    have ey := f2 _ qb
    rw [gb] at ey
    obtain rfl := Option.some.inj ey
    have ST : Same H (upd H T (.tup [V.int xs[k], V.int ys[k]])) := Same.new hT
    refine ⟨T, _, rfl, SqT.of upd_same, rfl, _, _, rfl, _, _, rfl, rfl, hw _ _, iteT (B := Same H1 (upd H T (.tup [V.int xs[k], V.int ys[k]])) ∧ (upd H T (.tup [V.int xs[k], V.int ys[k]])) D = some (.lst ((List.zipWith F (xs.take (k + 1)) (ys.take (k + 1))).map V.int))) ?_⟩
    refine hs _ _ _ (S.trans ST) _ fun H4 S4 => ⟨_, S4 _ _ (ST _ _ hD2), ?_, ((KP.same (S := fun _ => False) ((S.trans ST).trans S4)).mut hD).toSame, ?_⟩
    · rw [List.length_map, List.length_zipWith, List.length_take, List.length_take]
      exact Nat.lt_of_le_of_lt (show _ ≤ 1000000 by omega) (by decide)
    · rw [upd_same, take_next (List.getElem?_eq_getElem hlt), take_next (List.getElem?_eq_getElem hlt2), List.zipWith_append (by rw [List.length_take, List.length_take, hl]), List.map_append]
      rfl
  · have e : k = xs.length := by omega
    subst e
    refine .inl ⟨⟨_, _, qa, qb, .inl (by rw [List.length_map]; exact Nat.le_refl _)⟩, hd H ?_ S⟩
    rw [List.take_length, hl, List.take_length] at hD2
    exact hD2
end
section
variable {P : Program} {w : World} {K : PySem.W.Frag} {mg : Str → Option Value} {base : Heap} {CM CR CE : Addr}
def spBeside (CM CR : Addr) : Sp := fun vs H Q E => ∃ (m1 m2 : Addr) (A B : Int) (us ws : List (Addr × List Int)), vs = [.ref m1, .ref m2] ∧ MachAt CM H m1 A us ∧ MOk A us ∧ MachAt CM H m2 B ws ∧ MOk B ws ∧ us.length * ws.length ≤ 1000 ∧
  (A ≠ B → ∀ H' q, Same H H' → H' q = none → E (.ref CR) (some q) (upd H' q (.xd [(("at" : Str), .int 0)]))) ∧
  (A = B → ∀ H' m xs, Same H H' → H m = none → MachAt CM H' m A xs → rsOf xs = bG (rsOf us) (rsOf ws) → Q (.ref m) H')
end
end Lk

set_option Elab.async false
set_option linter.all false
set_option maxRecDepth 100000
set_option maxHeartbeats 4000000
/-! a try of which each clause binds the exception: several of them -/
namespace Lk
open PySem PySem.Spec PyProof.Rows L2
/-- the ends of a suite behind which the slot is empty again -/
def endsAs (i : Nat) (D : Ends) : Ends := { nx := fun σ' H' => D.nx (σ'.set i none) H', rt := D.rt, bk := fun σ' H' => D.bk (σ'.set i none) H', ct := fun σ' H' => D.ct (σ'.set i none) H' }
abbrev Suit := Addr → Value → Option Addr → TS
/-- what the clauses ask of an exception of the class cls: the first that takes it gets it into slot i -/
def wAll (K : PySem.W.Frag) (i : Nat) (Wo : WX) (D : Ends) : List (Value × Suit) → WX
  | [] => Wo
  | q :: r => fun cls d σ H => ∃ b, PySem.W.exmOne K cls q.1 = some b ∧ (if b = true then ∀ a, H a = none → q.2 a cls d (endsAs i D) (σ.set i (some (.ref a))) H else wAll K i Wo D r cls d σ H)
section
variable {X : Cx} {i : Nat} {n : Str}
/-- the clauses of the text, each with what its suite does -/
inductive Clauses (X : Cx) (n : Str) : List ExceptHandler → List (Value × Suit) → Prop
  | nil : Clauses X n [] []
  | cons {x : Str} {c : Value} {ts : Suit} {b : Stmt} {bs : List Stmt} {p1 p2 : Pos} {hs : List ExceptHandler} {l : List (Value × Suit)} (nm : Names X x c)
      (su : ∀ a oe cls d pn, Zc cls d oe → (∃ vs, oe.data = .fields vs) → PSs (X.suite a ((a, oe) :: pn)) (b :: bs) (ts a cls d)) (tl : Clauses X n hs l) :
      Clauses X n (.ExceptHandler (some (.Name x p1)) (some n) (b :: bs) p2 :: hs) ((c, ts) :: l)
/-- an exception at a has been noted, and stands on the ground: sI the state it left -/
structure Ground (X : Cx) (pins : List (Addr × Obj)) (σ : L2.St) (H : Hp) (cls : Value) (d : Option Addr) (a : Addr) (B : Heap) (sI s : Shared) : Prop where
  inv : Inv X pins σ H sI
  keep : ∀ b o, sI.heap.get? b = some o → b ∉ frs X.stack → B.get? b = some o
  up : sI.heap.UpToSlots s.heap
  fl : HandSPX.FlyingZ B (X.env :: X.outer) a (Zc cls d) s.heap
  fresh : H a = none
  os : s.os = sI.os
  bare : AllBare s.gens
theorem Ground.now {pins : List (Addr × Obj)} {σ : L2.St} {H : Hp} {cls : Value} {d : Option Addr} {a : Addr} {B : Heap} {sI s : Shared} (hs : X.stack = X.env :: X.outer) (g : Ground X pins σ H cls d a B sI s) : Inv X pins σ H s :=
  g.inv.landed g.keep g.fl.1 g.up g.os g.bare
/-- it lies in none of the frames -/
theorem Ground.off {pins : List (Addr × Obj)} {σ : L2.St} {H : Hp} {cls : Value} {d : Option Addr} {a : Addr} {B : Heap} {sI s : Shared} (hf : X.env.frame = some X.env.locals) (g : Ground X pins σ H cls d a B sI s) : a ≠ X.env.locals ∧ a ∉ X.fs := by
  obtain ⟨oe, vs, he, hz, hd⟩ := g.fl.there
  have no : a ∉ frs (X.env :: X.outer) := fun m => by
    obtain ⟨_, o2, e2, k⟩ := g.fl.2.2.1.mem m
    rw [he] at e2
    exact k vs ((Option.some.inj e2) ▸ hd)
  refine ⟨fun z => no (List.mem_filterMap.mpr ⟨X.env, List.mem_cons_self, by rw [hf, z]⟩), fun m => ?_⟩
  obtain ⟨e, he2, q⟩ := List.mem_filterMap.mp m
  exact no (List.mem_filterMap.mpr ⟨e, List.mem_cons_of_mem _ he2, q⟩)
theorem ground_all {pins : List (Addr × Obj)} {σ : L2.St} {H : Hp} {cls : Value} {d : Option Addr} {a : Addr} {B : Heap} {sI s : Shared} {D : Ends} {Wo : WX} (hs : X.stack = X.env :: X.outer) (hf : X.env.frame = some X.env.locals) (hN : X.N.Nodup) (hi : X.N[i]? = some n)
    (hl : X.env.kindOf n = some .local) (tk : Takes X Wo) (ok : X.calm = true → X.A.handled = none) (g : Ground X pins σ H cls d a B sI s) : ∀ {hds : List ExceptHandler} {l : List (Value × Suit)}, Clauses X n hds l → wAll X.K i Wo D l cls d σ H →
    wpAny (model X.prog X.w) X.A (handleBy (.ref a) X.env hds) (SP X pins D) X.xe s := by
  have I3 := g.now hs
  obtain ⟨oL, oF⟩ := g.off hf
  obtain ⟨oe, vs, he, hz, hd⟩ := g.fl.there
  have lk : PySem.W.Looks (model X.prog X.w) s.heap (typeOf (.ref a)) cls := fun A Q E s k q => wpAny_typeOf_ref (k _ _ he) (by rw [hz.1]; exact q)
  intro hds l cl
  induction cl with
  | nil =>
    intro w
    obtain ⟨_, _, _, ox, ws, T, oT, tT, ex, zx, dx, h1, hr⟩ := id g.fl
    refine wpAny_handleBy_nil ?_
    unfold PySem.passOn
    refine wpAny_bind (wpAny_field ex dx h1 ?_)
    rw [if_neg (show ¬ ((Value.ref T == Value.none) = true) by simp)]
    have last : wpAny (model X.prog X.w) X.A (setFlight (.ref a) X.env.frame) (fun _ z => wpAny (model X.prog X.w) X.A (throw (.ref a) : Sem Flow) (SP X pins D) X.xe z) X.xe s := by
      rw [hf]
      exact HandSPX.setFlight_upZ g.fl fun h4 q4 up4 => wpAny_throw (tk _ _ ⟨a, B, sI, pins, σ, H, cls, d, rfl, g.inv, g.keep, g.up.trans up4, .inr (.inr (by rw [hs]; exact q4)), g.fresh, g.os, g.bare, w⟩)
    first
      | exact wpAny_bind (wpAny_pure (wpAny_bind last))
      | exact wpAny_bind last
  | @cons x c ts b bs p1 p2 hs2 l2 nm su tl ih =>
    intro w
    obtain ⟨t, ht, w⟩ := w
    refine wpAny_handleBy_cons (codeAny_handlers_test ?_) (by intro q; cases q)
    have SI := I3.suite he hd g.fresh oL oF
    have read : ∀ {Q : Value → Shared → Prop} {E : Value → Shared → Prop}, Q c s → wpAny (model X.prog X.w) (X.A.mark (some (.ref a))) (eval (.Name x p1) X.env) Q E s := fun {Q E} q => by
      obtain ⟨k1, k2, k3 | ⟨k3, k4, k5⟩⟩ := nm
      · exact ld_glob (X := X.suite a ((a, oe) :: (X.pn ++ pins))) SI k1 k3 q k2
      · exact ld_blt (X := X.suite a ((a, oe) :: (X.pn ++ pins))) SI k1 k3 k4 q k5 k2
    refine read ((PySem.W.exm_one (M := model X.prog X.w) I3.kIn lk ht).here ?_)
    cases t with
    | false => exact ih w
    | true =>
      refine codeAny_handlers_suite_as (HandSPX.lands_againZ g.fl fun h4 fl4 up4 => ?_)
      have I4 : Inv X pins σ H { s with heap := h4 } := g.inv.landed g.keep fl4.1 (g.up.trans up4) g.os g.bare
      obtain ⟨o4, vs4, he4, hz4, hd4⟩ := fl4.there
      refine store_ok (X := X.suite a ((a, o4) :: (X.pn ++ pins))) (v := .ref a) (I4.suite he4 hd4 g.fresh oL oF) hN hi (.inl hl) rfl (fun s5 I5 => ?_) (.inr hl)
      refine wpAny_mono ((su a o4 cls d (X.pn ++ pins) hz4 ⟨_, hd4⟩).run [] s5 _ H _ I5 (w a g.fresh)) (fun f s6 q6 => ?_) (fun _ _ z => False.elim z)
      have gone : ∀ {σ6 : L2.St} {H6 : Hp} {Q : Shared → Prop}, Inv (X.suite a ((a, o4) :: (X.pn ++ pins))) [] σ6 H6 s6 → (∀ s7, Inv X pins (σ6.set i none) H6 s7 → Q s7) → wpAny (model X.prog X.w) X.A (do bindName X.env n .none; unbindBehindTheSuite X.env n p2) (fun _ s7 => Q s7) X.xe s6 :=
        fun {σ6 H6 Q} I6 k => gone_ok (I6.unsuite I3.ok) hN hi hl k
      cases f with
      | ret u =>
        obtain ⟨v6, σ6, H6, I6, r6, z6⟩ := q6
        exact gone I6 fun s7 I7 => ⟨_, _, _, I7, r6, z6⟩
      | next =>
        obtain ⟨σ6, H6, I6, z6⟩ := q6
        exact gone I6 fun s7 I7 => ⟨_, _, I7, z6⟩
      | cont =>
        obtain ⟨σ6, H6, I6, z6⟩ := q6
        exact gone I6 fun s7 I7 => ⟨_, _, I7, z6⟩
      | brk =>
        obtain ⟨σ6, H6, I6, z6⟩ := q6
        exact gone I6 fun s7 I7 => ⟨_, _, I7, z6⟩
theorem ps_try_all {body : List Stmt} {h0 : ExceptHandler} {hds : List ExceptHandler} {l : List (Value × Suit)} {pos : Pos} {tb : WX → TS} {Wo : WX} (hs : X.stack = X.env :: X.outer) (hf : X.env.frame = some X.env.locals) (hN : X.N.Nodup) (hi : X.N[i]? = some n) (hl : X.env.kindOf n = some .local) (tk : Takes X Wo)
    (hb : ∀ W pn xe, Takes (X.tr pn xe) W → PassesOwn (model X.prog X.w) X.A X.env xe → PSs (X.tr pn xe) body (tb W)) (cl : Clauses X n (h0 :: hds) l) : PS X (.Try body (h0 :: hds) [] [] pos) (fun D σ H => tb (wAll X.K i Wo D l) D σ H) := by
  refine ⟨fun pins s σ H D I h => wpAny_Try_except ?_⟩
  have ok := I.ok
  refine wpAny_mono ((hb (wAll X.K i Wo D l) (X.pn ++ pins) (fun e z1 => wpAny (model X.prog X.w) X.A (noteFrame e X.env) (fun _ z2 => wpAny (model X.prog X.w) X.A (setFlight e none) (fun _ z3 => wpAny (model X.prog X.w) X.A (handleBy e X.env (h0 :: hds)) (SP X pins D) X.xe z3) X.xe z2) X.xe z1)
    (fun u z xx => ?_) PassesOwn.looking).run [] s σ H D (I.toTry _) h) (fun f z q => ?_) (fun e z he => he)
  · obtain ⟨a, B, sI, _, σ2, H2, cls, d, rfl, I2, nb, up, sky, na, os, ag, w⟩ := xx
    refine Sky.land Zc.steady (show X.A.frames = some (X.env :: X.outer) by rw [ok.frames, hs]) hf (by rw [← hs]; exact sky) fun h3 fl3 up3 => ?_
    exact ground_all (s := { z with heap := h3 }) hs hf hN hi hl tk (fun hc => ok.hd hc) ⟨I2.ofTry ok, nb, up.trans up3, fl3, na, os, ag⟩ cl w
  · cases f with
    | ret u =>
      obtain ⟨v, σ2, H2, I2, r, k⟩ := q
      exact ⟨v, σ2, H2, I2.ofTry ok, r, k⟩
    | next =>
      obtain ⟨σ2, H2, I2, k⟩ := q
      exact wpAny_execs_nil ⟨σ2, H2, I2.ofTry ok, k⟩
    | cont =>
      obtain ⟨σ2, H2, I2, k⟩ := q
      exact ⟨σ2, H2, I2.ofTry ok, k⟩
    | brk =>
      obtain ⟨σ2, H2, I2, k⟩ := q
      exact ⟨σ2, H2, I2.ofTry ok, k⟩
end
end Lk

set_option Elab.async false
set_option linter.all false
set_option maxRecDepth 100000
set_option maxHeartbeats 4000000
namespace Lk
open PySem L2
/-! ### calls by keywords alone, that may raise -/
theorem Vals.rev : ∀ {xs : List V} {us : List Value}, Vals xs us → Vals xs.reverse us.reverse
  | _, _, .nil => .nil
  | x :: xs, u :: us, .cons r t => by
    rw [List.reverse_cons, List.reverse_cons]
    exact (Vals.rev t).append (.cons r .nil)
/-- the keywords stand in the reverse order of the parameters -/
theorem kbn_rev {K : PySem.W.Frag} {x qual : Str} {st : Stmt} {f : Addr} {fd : FuncData} {ps ks : List Str} {n : Nat} (F : Fun K x qual st f fd)
    (h : ∀ (kV doc pm : Value) (an : Option Addr) (cdv ct : Value) (us ws : List Value), us.length = n → ws.length = ks.length → bindArgs (PySem.W.fnOf x qual (defArgs st) (defBody st) (defScope st) .none kV doc pm an cdv ct) ⟨us, ks.zip ws⟩ = pure (ps.zip (us ++ ws.reverse))) :
    KBn K fd ps n ks (fun us ws => us ++ ws.reverse) (fun vs zs => vs ++ zs.reverse) := by
  obtain ⟨oc, od, kV, doc, pm, an, cdv, ct, osl, rfl, lk, hcd⟩ := F.ex
  exact ⟨fun s us ws _ l1 l2 => .of_eq (h kV doc pm an cdv ct us ws l1 l2), fun r1 r2 => r1.append (Vals.rev r2)⟩
section
variable {X : Cx} {CX : CXT} {k : Nat} {f C : Addr} {fd : FuncData} {ps ks : List Str} {sp : Sp} {E : St → XK} {x : Str} {p pos : Pos} {kws : List Keyword} {tk : TA} {g : List Value → List Value → List Value} {gV : List V → List V → List V}
def tKw (sp : Sp) (gV : List V → List V → List V) (m : Nat) (E : St → XK) (tk : TA) : TE := fun σ H Q => tk σ H fun zs H2 => zs.length = m ∧ sp (gV [] zs) H2 Q (E σ)
def tMkKw (C : Addr) (sp : Sp) (gV : List V → List V → List V) (m : Nat) (E : St → XK) (tk : TA) : TE := fun σ H Q => tk σ H fun zs H2 => zs.length = m ∧ ∀ x dx, H2 x = none → H2 dx = none → dx ≠ x →
  sp (gV [.ref x] zs) (upd (upd H2 dx (.own x)) x (.ins C dx [])) (fun v H3 => v = .non ∧ Q (.ref x) H3) (E σ)
theorem pe_kw (G : FnOk X.prog X.w X.K X.mg X.base CX k f fd ps sp) (room : Room k X.A) (gx : Gl X x) (mx : X.mg x = some (.ref f)) (kp : PySem.W.keepIn X.K (.ref f) = true) (bd : KBn X.K fd ps 0 ks g gV) (out : ∀ σ, PassesAt CX X σ (E σ)) (args : PK X kws tk)
    (h1 : (backToKw pos (keywordEach kws X.env)).all (·.1.isSome) = true := by rfl) (h2 : (backToKw pos (keywordEach kws X.env)).filterMap (·.1) = ks := by rfl) (h3 : (x == ("__debug__" : Str)) = false := by decide)
    (h4 : ((backTo pos (starEach [] X.env)).any (·.1) || (backToKw pos (keywordEach kws X.env)).any (·.1.isNone)) = false := by rfl) : PE X (.Call (.Name x p) [] kws pos) (tKw sp gV ks.length E tk) := by
  refine ⟨fun pins s σ H Q I h => wpAny_Call_Name_kw (ld_glob I gx mx (PySem.W.callWith_KW0 (h₀ := X.base) I.ok.mod.kin kp h1 ?_ h4) h3)⟩
  refine thn (args.run pos pins s σ H _ I h) fun ws s2 ⟨zs, H2, I2, rz, hl, q2⟩ => ⟨I2.kIn, ?_⟩
  rw [h2]
  refine wpAny_call (codeAny_mono (G.run X.A X.stack s2 H2 ⟨[], ks.zip ws⟩ (g [] ws) (gV [] zs) Q (E σ) room I2.env0 (bd.to _ [] ws I2.kIn rfl (rz.length.symm.trans hl)) (bd.rel .nil rz) q2) fun r s3 q3 => ?_)
  match r, q3 with
  | .error e, q3 => exact out σ pins H2 s2 e s3 I2 q3
  | .ok (.ret u), q3 => exact I2.after q3
  | .ok .next, q3 => exact q3.elim
  | .ok .brk, q3 => exact q3.elim
  | .ok .cont, q3 => exact q3.elim
theorem pe_mkKw (M : Mk X.K C f) (G : FnOk X.prog X.w X.K X.mg X.base CX k f fd ps sp) (room : Room (k + 1) X.A) (gx : Gl X x) (mx : X.mg x = some (.ref C)) (bd : KBn X.K fd ps 1 ks g gV) (out : ∀ σ, PassesAt CX X σ (E σ)) (args : PK X kws tk)
    (h1 : (backToKw pos (keywordEach kws X.env)).all (·.1.isSome) = true := by rfl) (h2 : (backToKw pos (keywordEach kws X.env)).filterMap (·.1) = ks := by rfl) (h3 : (x == ("__debug__" : Str)) = false := by decide)
    (h4 : ((backTo pos (starEach [] X.env)).any (·.1) || (backToKw pos (keywordEach kws X.env)).any (·.1.isNone)) = false := by rfl) : PE X (.Call (.Name x p) [] kws pos) (tMkKw C sp gV ks.length E tk) := by
  refine ⟨fun pins s σ H Q I h => wpAny_Call_Name_kw (ld_glob I gx mx (PySem.W.callWith_KW0 (h₀ := X.base) I.ok.mod.kin M.kp h1 ?_ h4) h3)⟩
  refine thn (args.run pos pins s σ H _ I h) fun ws s2 ⟨zs, H2, I2, rz, hl, q2⟩ => ⟨I2.kIn, ?_⟩
  rw [h2]
  have q := q2 (s2.heap.objs.size + 1) s2.heap.objs.size (I2.hok.fresh (Nat.le_succ _)) (I2.hok.fresh (Nat.le_refl _)) (Nat.ne_of_lt (Nat.lt_succ_self _))
  have I3 := I2.made (C := C)
  have r3 := bd.rel (Paired.cons (show RelV (V.ref (s2.heap.objs.size + 1)) (Value.ref (s2.heap.objs.size + 1)) from rfl) .nil) rz
  refine wpAny_call (make_map (f := f) I2.kIn M.makes M.init (beq_iff_eq.mp M.fn) (codeAny_mono (G.run _ X.stack _ _ ⟨[.ref (s2.heap.objs.size + 1)], ks.zip ws⟩ _ _ _ (E σ) (room.make C [] (ks.zip ws)) (I3.env0.make C [] (ks.zip ws)) (bd.to _ [.ref (s2.heap.objs.size + 1)] ws I3.kIn rfl (rz.length.symm.trans hl)) r3 q) fun r s3 q3 => ?_))
  match r, q3 with
  | .error e, q3 => exact out σ pins _ _ e s3 I3 q3
  | .ok (.ret u), q3 =>
    obtain ⟨v, H4, I4, rv, ⟨rfl, k4⟩⟩ := I3.after q3
    exact ⟨rv, V.ref (s2.heap.objs.size + 1), H4, I4, rfl, k4⟩
  | .ok .next, q3 => exact q3.elim
  | .ok .brk, q3 => exact q3.elim
  | .ok .cont, q3 => exact q3.elim
end
def resV : Option Int → V
  | some k => .int k
  | none => .non
def spRefused : Sp := fun vs H Q _ => ∃ (x y : V) (dc ds : PyData), vs = [x, y] ∧ Dv H x dc ∧ Dv H y ds ∧ (itemsD ds).length ≤ 1000 ∧ (∀ e ∈ itemsD ds, (itemsD e).length ≤ 1000) ∧ ∀ H', Same H H' → Q (resV (makeRes dc ds)) H'
/-- what the top says of the class Machine's making -/
structure McT (K : PySem.W.Frag) (mg : Str → Option Value) (CM fI : Addr) (fdI : FuncData) : Prop where
  mM : Mk K CM fI
  g : mg "Machine" = some (.ref CM)
  b : Binds K fdI P_Machine___init []
  k : KBn K fdI P_Machine___init 1 ["steps", "commands"] (fun us ws => us ++ ws.reverse) (fun vs zs => vs ++ zs.reverse)
section
variable {P : Program} {w : World} {K : PySem.W.Frag} {mg : Str → Option Value} {base : Heap} {CM CR CE CW : Addr}
end
end Lk

set_option Elab.async false
set_option linter.all false
set_option maxRecDepth 100000
set_option maxHeartbeats 4000000
namespace Lk
open PySem L2
theorem op_mul_str {X : Cx} : OpR X (binaryOp .Mult) (fun x y H Q => ∃ (z : Str) (n : Int), x = .str z ∧ y = .int n ∧ MulOk z n ∧ Q (.str (Txt.mul z n)) H) := by
  intro pins s σ H x y v u Q I rx ry h
  obtain ⟨z, n, rfl, rfl, ok, q⟩ := h
  obtain ⟨t, rfl⟩ := rx
  obtain ⟨t', rfl⟩ := ry
  exact SB.mul ok fun t2 k => ⟨.str _, H, I.tok _, ⟨_, rfl⟩, q⟩
theorem cut_to {xs : List V} {n : Nat} (h : n ≤ xs.length) : cutV xs none (some (n : Int)) = xs.take n := by
  have e1 : HT.sIx xs.length 0 none = 0 := rfl
  have e2 : HT.sIx xs.length xs.length (some (n : Int)) = n := by
    show (if (n : Int) < 0 then ((n : Int) + ((xs.length : Nat) : Int)).toNat else min (n : Int).toNat xs.length) = n
    rw [if_neg (by omega), Int.toNat_natCast, Nat.min_eq_left h]
  unfold cutV
  rw [e1, e2, List.drop_zero, Nat.sub_zero]
theorem cut_from {xs : List V} {n : Nat} (h : n ≤ xs.length) : cutV xs (some (n : Int)) none = xs.drop n := by
  have e1 : HT.sIx xs.length xs.length none = xs.length := rfl
  have e2 : HT.sIx xs.length 0 (some (n : Int)) = n := by
    show (if (n : Int) < 0 then ((n : Int) + ((xs.length : Nat) : Int)).toNat else min (n : Int).toNat xs.length) = n
    rw [if_neg (by omega), Int.toNat_natCast, Nat.min_eq_left h]
  unfold cutV
  rw [e1, e2, List.take_of_length_le (by rw [List.length_drop]; exact Nat.le_refl _)]
/-- one of six, of five, of three -/
theorem pick6 {a b c d e f v : V} {i : Nat} {P : V → Prop} (h : [a, b, c, d, e, f][i]? = some v) (ha : P a) (hb : P b) (hc : P c) (hd : P d) (he : P e) (hf : P f) : P v := by
  match i, h with
  | 0, h => exact (Option.some.inj h) ▸ ha
  | 1, h => exact (Option.some.inj h) ▸ hb
  | 2, h => exact (Option.some.inj h) ▸ hc
  | 3, h => exact (Option.some.inj h) ▸ hd
  | 4, h => exact (Option.some.inj h) ▸ he
  | 5, h => exact (Option.some.inj h) ▸ hf
  | n + 6, h => simp at h
theorem pick5 {a b c d e v : V} {i : Nat} {P : V → Prop} (h : [a, b, c, d, e][i]? = some v) (ha : P a) (hb : P b) (hc : P c) (hd : P d) (he : P e) : P v := by
  match i, h with
  | 0, h => exact (Option.some.inj h) ▸ ha
  | 1, h => exact (Option.some.inj h) ▸ hb
  | 2, h => exact (Option.some.inj h) ▸ hc
  | 3, h => exact (Option.some.inj h) ▸ hd
  | 4, h => exact (Option.some.inj h) ▸ he
  | n + 5, h => simp at h
theorem pick3 {a b c v : V} {i : Nat} {P : V → Prop} (h : [a, b, c][i]? = some v) (ha : P a) (hb : P b) (hc : P c) : P v := by
  match i, h with
  | 0, h => exact (Option.some.inj h) ▸ ha
  | 1, h => exact (Option.some.inj h) ▸ hb
  | 2, h => exact (Option.some.inj h) ▸ hc
  | n + 3, h => simp at h
theorem badAt_at {A n : Int} {e : PyData} (he : isE A n e = false) : ∀ {pre post : List PyData} {i : Nat}, (∀ d ∈ pre, isE A n d = true) → badAt A n (pre ++ e :: post) i = some (i + pre.length)
  | [], _, _, _ => by
    show badAt A n (e :: _) _ = _
    rw [badAt_cons, if_neg (by rw [he]; decide)]
    rfl
  | d :: pre, post, i, h => by
    show badAt A n (d :: (pre ++ e :: post)) i = _
    rw [badAt_cons, if_pos (h d List.mem_cons_self), badAt_at he fun x hx => h x (List.mem_cons_of_mem _ hx), List.length_cons]
    congr 1
    omega
/-- an entry in the middle is wrong -/
theorem stepsRes_at {A : Nat} {rs : List (List Int)} {i : Nat} {e : PyData} (x : Rs A rs) (hi : i < rs.length) (he : isE A (rs.length : Int) e = false) : stepsRes A (.list ((rs.take i).map lstP ++ e :: (rs.drop (i + 1)).map lstP)) = some (2 + (i : Int)) := by
  have hl : ((rs.take i).map lstP ++ e :: (rs.drop (i + 1)).map lstP).length = rs.length := by
    rw [List.length_append, List.length_cons, List.length_map, List.length_map, List.length_take, List.length_drop]
    omega
  unfold stepsRes
  rw [if_neg (fun q => q.elim (fun e => by cases e) fun e => by
    have e' : ((rs.take i).map lstP ++ _ :: (rs.drop (i + 1)).map lstP) = [] := e
    simp at e')]
  have e0 : itemsD (.list ((rs.take i).map lstP ++ e :: (rs.drop (i + 1)).map lstP)) = (rs.take i).map lstP ++ e :: (rs.drop (i + 1)).map lstP := rfl
  rw [e0, hl, badAt_at he (fun d hd => by
    obtain ⟨r, hr, rfl⟩ := List.mem_map.mp hd
    exact isE_lst (x.row r (List.mem_of_mem_take hr))), List.length_map, List.length_take, Nat.min_eq_left (by omega)]
  show some (2 + ((0 + i : Nat) : Int)) = _
  rw [Nat.zero_add]
theorem makeRes_row {A : Nat} {rs : List (List Int)} {i : Nat} {e : PyData} (hA : 0 < A) (x : Rs A rs) (hi : i < rs.length) (he : isE A (rs.length : Int) e = false) : makeRes (.int A) (.list ((rs.take i).map lstP ++ e :: (rs.drop (i + 1)).map lstP)) = some (2 + (i : Int)) := by
  unfold makeRes
  rw [if_neg (by
    show ¬ decide ((A : Int) ≤ 0) = true
    rw [decide_eq_false (by omega)]
    decide)]
  exact stepsRes_at x hi he
def spWrong : Sp := fun vs H Q _ => ∃ (d l a : Addr) (A : Nat) (ts : List (Addr × List Int)), vs = [.ref d, .int (A : Int), .ref a] ∧ DealAt H d l ∧ GridAt H a ts ∧ ¬ dl d l a ∧ (∀ t ∈ ts, ¬ dl d l t.1) ∧ RowsOk A ts ∧ 0 < A ∧ A ≤ 5 ∧ ts.length ≤ 100 ∧
  ∀ (H' : Hp) (t : Addr) (x y : V) (dc ds : PyData) (n : Int), DealAt H' d l → SB d l H H' → H' t = some (.tup [x, y, .int n]) → Dv H' x dc → Dv H' y ds → (itemsD ds).length ≤ 1000 → (∀ e ∈ itemsD ds, (itemsD e).length ≤ 1000) → makeRes dc ds = some n → Q (.ref t) H'
theorem DvAll.set {H : Hp} {v : V} {e : PyData} (De : Dv H v e) : ∀ {xs : List V} {ds : List PyData} {i : Nat}, DvAll H xs ds → DvAll H (xs.set i v) (ds.set i e)
  | _, _, _, .nil => .nil
  | _, _, 0, .cons _ t => .cons De t
  | _, _, _ + 1, .cons h t => .cons h (DvAll.set De t)
theorem all_set_false {p : PyData → Bool} {e : PyData} : ∀ {ds : List PyData} {i : Nat}, i < ds.length → p e = false → (ds.set i e).all p = false
  | [], _, h, _ => by simp at h
  | d :: ds, 0, _, he => by
    show (p e && ds.all p) = false
    rw [he, Bool.false_and]
  | d :: ds, i + 1, h, he => by
    show (p d && (ds.set i e).all p) = false
    rw [all_set_false (Nat.lt_of_succ_lt_succ h) he, Bool.and_false]
theorem dvAll_append {H : Hp} : ∀ {xs ys : List V} {ds es : List PyData}, DvAll H xs ds → DvAll H ys es → DvAll H (xs ++ ys) (ds ++ es)
  | _, _, _, _, .nil, k => k
  | _, _, _, _, .cons h t, k => .cons h (dvAll_append t k)
theorem dv_mid {H : Hp} {ts : List (Addr × List Int)} {i : Nat} {v : V} {e : PyData} {p : Addr} (rows : ∀ t ∈ ts, H t.1 = some (.lst (t.2.map V.int))) (De : Dv H v e) (hp : H p = some (.lst ((ts.map fun t => V.ref t.1).take i ++ [v] ++ (ts.map fun t => V.ref t.1).drop (i + 1)))) :
    Dv H (.ref p) (.list (((rsOf ts).take i).map lstP ++ e :: ((rsOf ts).drop (i + 1)).map lstP)) := by
  refine .lst hp ?_
  have e1 : (rsOf ts).take i = rsOf (ts.take i) := by
    unfold rsOf
    rw [List.map_take]
  have e2 : (rsOf ts).drop (i + 1) = rsOf (ts.drop (i + 1)) := by
    unfold rsOf
    rw [List.map_drop]
  rw [e1, e2, ← List.map_take, ← List.map_drop, List.append_assoc]
  exact dvAll_append (dv_rowsL fun t ht => rows t (List.mem_of_mem_take ht)) (.cons De (dv_rowsL fun t ht => rows t (List.mem_of_mem_drop ht)))
theorem size_mid {rs : List (List Int)} {i : Nat} {e : PyData} (hi : i < rs.length) (hz : rs.length ≤ 1000) (he : (itemsD e).length ≤ 1000) (hr : ∀ r ∈ rs, r.length ≤ 1000) :
    (itemsD (.list ((rs.take i).map lstP ++ e :: (rs.drop (i + 1)).map lstP))).length ≤ 1000 ∧ ∀ q ∈ itemsD (.list ((rs.take i).map lstP ++ e :: (rs.drop (i + 1)).map lstP)), (itemsD q).length ≤ 1000 := by
  have e0 : itemsD (.list ((rs.take i).map lstP ++ e :: (rs.drop (i + 1)).map lstP)) = (rs.take i).map lstP ++ e :: (rs.drop (i + 1)).map lstP := rfl
  rw [e0]
  have hrow : ∀ r ∈ rs, (itemsD (lstP r)).length ≤ 1000 := fun r hr' => by
    show (r.map PyData.int).length ≤ 1000
    rw [List.length_map]
    exact hr r hr'
  refine ⟨?_, fun q hq => ?_⟩
  · rw [List.length_append, List.length_cons, List.length_map, List.length_map, List.length_take, List.length_drop]
    omega
  · rcases List.mem_append.mp hq with h | h
    · obtain ⟨r, hr', rfl⟩ := List.mem_map.mp h
      exact hrow r (List.mem_of_mem_take hr')
    · rcases List.mem_cons.mp h with h | h
      · rw [h]
        exact he
      · obtain ⟨r, hr', rfl⟩ := List.mem_map.mp h
        exact hrow r (List.mem_of_mem_drop hr')
section
variable {P : Program} {w : World} {K : PySem.W.Frag} {mg : Str → Option Value} {base : Heap}
end
end Lk

set_option Elab.async false
set_option linter.all false
set_option maxRecDepth 100000
set_option maxHeartbeats 4000000
namespace Lk
open PySem L2
theorem rows_of {F : List Int → List Int} {ts us : List (Addr × List Int)} (hl : us.length = ts.length) (h : ∀ (i : Nat) t, us[i]? = some t → ∃ u, ts[i]? = some u ∧ t.2 = F u.2) : rsOf us = (rsOf ts).map F := by
  refine List.ext_getElem? fun k => ?_
  rw [List.getElem?_map]
  cases hk : us[k]? with
  | none =>
    have q1 : us.length ≤ k := List.getElem?_eq_none_iff.mp hk
    have q2 : (rsOf ts)[k]? = none := List.getElem?_eq_none_iff.mpr (by rw [rsOf_len]; omega)
    have q3 : (rsOf us)[k]? = none := List.getElem?_eq_none_iff.mpr (by rw [rsOf_len]; exact q1)
    rw [q2, q3] <;> rfl
  | some t =>
    obtain ⟨u, hu, e⟩ := h k t hk
    rw [rsOf_get hk, rsOf_get hu, e] <;> rfl
section
variable {K : PySem.W.Frag} {j : Nat} {te : TE} {σ : St} {H1 : Hp} {D : Addr} {Qd : Hp → Prop} {d l : Addr}
/-- rows made of a list's rows, in new lists -/
theorem lcF {a : Addr} {ts : List (Addr × List Int)} (F : List Int → List Int) (hD : H1 D = none) (hI : DealAt H1 d l) (G : GridAt H1 a ts) (na : ¬ dl d l a) (nt : ∀ t ∈ ts, ¬ dl d l t.1) (hn : ts.length ≤ 1000)
    (hs : ∀ u ∈ ts, ∀ H, DealAt H d l → SB d l H1 H → H u.1 = some (.lst (u.2.map V.int)) → ∀ Q : VK, (∀ b, H b = none → Q (.ref b) (upd H b (.lst ((F u.2).map V.int)))) → te ((wipe σ [j]).set j (some (.ref u.1))) H Q)
    (hd : ∀ us H', rsOf us = (rsOf ts).map F → NewG H1 D us → GridAt H' D us → DealAt H' d l → SB d l H1 H' → Qd H') :
    ∃ W : Nat → Nat → Hp → Prop, (∃ m, W 0 m (upd H1 D (.lst []))) ∧ ∀ i m H, W i m H →
      ((Itl K a).stop i H ∧ Qd H) ∨ ((Itl K a).go i H ∧ ∃ Nx : Hp → Prop, (∀ H', Nx H' → ∃ m', m' < m ∧ W (i + 1) m' H') ∧ ∀ x H', (Itl K a).yld i H x H' → gName j x (wipe σ [j]) H' fun σ2 H2 => wipe σ2 [j] = wipe σ [j] ∧ tYes σ2 H2 fun b H3 =>
        if b = true then te σ2 H3 fun y H4 => ∃ acc, H4 D = some (.lst acc) ∧ acc.length < sizeLine ∧ Nx (upd H4 D (.lst (acc ++ [y]))) else Nx H3) := by
  refine lcGL (K := K) (a := a) (xs := ts.map fun t => V.ref t.1) (fun i r => ∃ u, ts[i]? = some u ∧ r = F u.2) hD hI (by rw [List.length_map]; omega) (fun H3 k3 => SqL.of (k3.kp.get na G.top)) (fun i x H3 hi x3 k3 Q3 kQ => ?_) (fun us H3 hl hz hN hG x3 k3 => ?_)
  · rw [List.getElem?_map] at hi
    obtain ⟨u, hu, rfl⟩ : ∃ u, ts[i]? = some u ∧ V.ref u.1 = x := by
      cases e : ts[i]? with
      | none => rw [e] at hi; cases hi
      | some u => rw [e] at hi; exact ⟨u, rfl, Option.some.inj hi⟩
    have hm := mem_of_get hu
    exact hs u hm H3 x3 k3 (k3.kp.get (nt u hm) (G.row u hm)) Q3 fun b hb => kQ b (F u.2) _ (x3.new hb) (SB.new hb) hb upd_same ⟨u, hu, rfl⟩
  · rw [List.length_map] at hl
    exact hd us H3 (rows_of hl hz) hN hG x3 k3
/-- what is made in new tuples -/
theorem lcFT {a : Addr} {ts : List (Addr × List Int)} (hD : H1 D = none) (hI : DealAt H1 d l) (G : GridAt H1 a ts) (na : ¬ dl d l a) (nt : ∀ t ∈ ts, ¬ dl d l t.1) (hn : ts.length ≤ 1000)
    (hs : ∀ u ∈ ts, ∀ H, DealAt H d l → SB d l H1 H → H u.1 = some (.lst (u.2.map V.int)) → ∀ Q : VK, (∀ b, H b = none → Q (.ref b) (upd H b (.tup (u.2.map V.int)))) → te ((wipe σ [j]).set j (some (.ref u.1))) H Q)
    (hd : ∀ (us : List (Addr × List Int)) H', rsOf us = rsOf ts → H' D = some (.lst (us.map fun u => V.ref u.1)) → (∀ u ∈ us, H' u.1 = some (.tup (u.2.map V.int))) → (∀ u ∈ us, u.1 ≠ D) → DealAt H' d l → SB d l H1 H' → Qd H') :
    ∃ W : Nat → Nat → Hp → Prop, (∃ m, W 0 m (upd H1 D (.lst []))) ∧ ∀ i m H, W i m H →
      ((Itl K a).stop i H ∧ Qd H) ∨ ((Itl K a).go i H ∧ ∃ Nx : Hp → Prop, (∀ H', Nx H' → ∃ m', m' < m ∧ W (i + 1) m' H') ∧ ∀ x H', (Itl K a).yld i H x H' → gName j x (wipe σ [j]) H' fun σ2 H2 => wipe σ2 [j] = wipe σ [j] ∧ tYes σ2 H2 fun b H3 =>
        if b = true then te σ2 H3 fun y H4 => ∃ acc, H4 D = some (.lst acc) ∧ acc.length < sizeLine ∧ Nx (upd H4 D (.lst (acc ++ [y]))) else Nx H3) := by
  have nD : ¬ dl d l D := hI.free hD
  refine lcL (K := K) (a := a) (xs := ts.map fun t => V.ref t.1) (dl d l) (fun H => DealAt H d l) (fun i y H' => ∃ t : Addr × List Int, y = V.ref t.1 ∧ H1 t.1 = none ∧ t.1 ≠ D ∧ H' t.1 = some (.tup (t.2.map V.int)) ∧ ∃ u, ts[i]? = some u ∧ t.2 = u.2) hD nD (by rw [List.length_map]; omega) hI (fun H o x => x.upd nD)
    (fun i y H H' k ⟨t, e, h1, h2, h3, h4⟩ => ⟨t, e, h1, h2, k.get (fun q => q.elim (hI.free h1) h2) h3, h4⟩) (fun H k => SqL.of (k.get na G.top)) (fun i x H acc hi x3 k3 hDa Q kQ => ?_) (fun ys H' hl hf hD' x3 k3 => ?_)
  · rw [List.getElem?_map] at hi
    obtain ⟨u, hu, rfl⟩ : ∃ u, ts[i]? = some u ∧ V.ref u.1 = x := by
      cases e : ts[i]? with
      | none => rw [e] at hi; cases hi
      | some u => rw [e] at hi; exact ⟨u, rfl, Option.some.inj hi⟩
    have hm := mem_of_get hu
    refine hs u hm H x3 k3.sb (k3.get (nt u hm) (G.row u hm)) Q fun b hb => kQ _ _ (x3.new hb) (KP.new hb) ⟨(b, u.2), rfl, k3.free (x3.free hb) hb, fun e => ?_, upd_same, u, hu, rfl⟩
    have e' : b = D := e
    rw [e', hDa] at hb
    cases hb
  · obtain ⟨us, rfl, ht⟩ := collect (g := fun u : Addr × List Int => V.ref u.1) hf
    rw [List.length_map, List.length_map] at hl
    have hm : ∀ t ∈ us, t.1 ≠ D ∧ H' t.1 = some (.tup (t.2.map V.int)) := fun t h => by
      obtain ⟨i, hi⟩ := List.getElem?_of_mem h
      exact ⟨(ht i t hi).2.1, (ht i t hi).2.2.1⟩
    refine hd us H' ?_ hD' (fun u hu => (hm u hu).2) (fun u hu => (hm u hu).1) x3 k3.sb
    have e := rows_of (F := id) hl fun i t hi => (ht i t hi).2.2.2
    rw [e, List.map_id]
/-- over enumerate of a list, into the slots i and j -/
theorem lcE {i j : Nat} {a : Addr} {xs : List V} (S : Addr → Prop) (I : Hp → Prop) (f : Nat → V → Hp → Prop) (hD : H1 D = none) (hS : ¬ S D) (hn : xs.length ≤ 1000000) (hI : I H1) (mI : ∀ H p o, ¬ S p → I H → I (upd H p o)) (fr : ∀ H p, I H → H p = none → ¬ S p)
    (mf : ∀ i y H H', KP (fun a => S a ∨ a = D) H H' → f i y H → f i y H') (ha : ∀ H, KP S H1 H → SqL K H a xs) (hw : ∀ x y : V, wipe (((wipe σ [i, j]).set i (some x)).set j (some y)) [i, j] = wipe σ [i, j])
    (hs : ∀ k x H acc, xs[k]? = some x → I H → KP S H1 H → H D = some (.lst acc) → ∀ Q : VK, (∀ y H4, I H4 → KP S H H4 → f k y H4 → Q y H4) → te (((wipe σ [i, j]).set i (some (.int (k : Int)))).set j (some x)) H Q)
    (hd : ∀ ys H', ys.length = xs.length → (∀ i y, ys[i]? = some y → f i y H') → H' D = some (.lst ys) → I H' → KP S H1 H' → Qd H') :
    ∃ W : Nat → Nat → Hp → Prop, (∃ m, W 0 m (upd H1 D (.lst []))) ∧ ∀ k m H, W k m H →
      ((Ite K a).stop k H ∧ Qd H) ∨ ((Ite K a).go k H ∧ ∃ Nx : Hp → Prop, (∀ H', Nx H' → ∃ m', m' < m ∧ W (k + 1) m' H') ∧ ∀ x H', (Ite K a).yld k H x H' → gTup K 2 (gCons (gName i) (gCons (gName j) gNil)) x (wipe σ [i, j]) H' fun σ2 H2 => wipe σ2 [i, j] = wipe σ [i, j] ∧ tYes σ2 H2 fun b H3 =>
        if b = true then te σ2 H3 fun y H4 => ∃ acc, H4 D = some (.lst acc) ∧ acc.length < sizeLine ∧ Nx (upd H4 D (.lst (acc ++ [y]))) else Nx H3) := by
  refine ⟨fun k m H => m = xs.length - k ∧ k ≤ xs.length ∧ Lcp S I f H1 D k H, ⟨xs.length, rfl, Nat.zero_le _, Lcp.zero hD (fun H o x => mI H D o hS x) hI⟩, ?_⟩
  rintro k m H ⟨rfl, hk, p⟩
  have qa := ha H p.2.1
  by_cases hlt : k < xs.length
  · have ga : xs[k]? = some xs[k] := List.getElem?_eq_getElem hlt
    refine .inr ⟨⟨xs, _, qa, ga⟩, fun H => Lcp S I f H1 D (k + 1) H, fun H' q => ⟨xs.length - (k + 1), by omega, rfl, hlt, q⟩, ?_⟩
    rintro v H' ⟨T, x, rfl, hT, rfl, f1⟩
    have ex := f1 _ qa
    rw [ga] at ex
    obtain rfl := Option.some.inj ex
    have nT := fr _ _ p.1 hT
    have hTD : T ≠ D := fun e => by
      obtain ⟨_, _, ys, e2, _⟩ := p
      rw [e, e2] at hT
      cases hT
    obtain ⟨p1, p2, ys, e, hl, hf⟩ := p
    have pT : Lcp S I f H1 D k (upd H T (.tup [V.int (k : Int), xs[k]])) := ⟨mI _ _ _ nT p1, p2.trans (KP.new hT), ys, (upd_ne (Ne.symm hTD)).trans e, hl, fun i y hy => mf _ _ _ _ (KP.new hT) (hf i y hy)⟩
    refine ⟨T, _, rfl, SqT.of upd_same, rfl, _, _, rfl, _, _, rfl, rfl, hw _ _, iteT (B := Lcp S I f H1 D (k + 1) (upd H T (.tup [V.int (k : Int), xs[k]]))) ?_⟩
    exact hs k _ _ ys ga pT.1 pT.2.1 ((upd_ne (Ne.symm hTD)).trans e) _ fun y H4 h1 h2 h3 => pT.step hD hS (fun H o x => mI H D o hS x) mf (by omega) h1 h2 h3
  · have e : k = xs.length := by omega
    subst e
    obtain ⟨p1, p2, ys, e, hl, hf⟩ := p
    exact .inl ⟨⟨_, qa, Nat.le_refl _⟩, hd ys H hl hf e p1 p2⟩
end
end Lk

set_option Elab.async false
set_option linter.all false
set_option maxRecDepth 100000
set_option maxHeartbeats 4000000
namespace Lk
open PySem L2
/-- a deal, a drawn machine's data in lists, and a machine made of it -/
structure Game (CM : Addr) (H : Hp) (d l a m : Addr) (A : Nat) (ts us : List (Addr × List Int)) : Prop where
  D : DealAt H d l
  G : GridAt H a ts
  na : ¬ dl d l a
  nt : ∀ t ∈ ts, ¬ dl d l t.1
  R : RowsOk A ts
  A0 : 0 < A
  A5 : A ≤ 5
  hz : ts.length ≤ 100
  M : MachAt CM H m A us
  e : rsOf us = rsOf ts
theorem Game.go {CM : Addr} {H H' : Hp} {d l a m : Addr} {A : Nat} {ts us : List (Addr × List Int)} (g : Game CM H d l a m A ts us) (D' : DealAt H' d l) (S : SB d l H H') : Game CM H' d l a m A ts us :=
  ⟨D', g.G.kp S.kp g.na g.nt, g.na, g.nt, g.R, g.A0, g.A5, g.hz, g.M.nl (NL.of_sb S g.D), g.e⟩
theorem Game.new {CM : Addr} {H : Hp} {d l a m p : Addr} {o : HO} {A : Nat} {ts us : List (Addr × List Int)} (g : Game CM H d l a m A ts us) (h : H p = none) : Game CM (upd H p o) d l a m A ts us :=
  g.go (g.D.new h) (SB.new h)
theorem Game.same {CM : Addr} {H H' : Hp} {d l a m : Addr} {A : Nat} {ts us : List (Addr × List Int)} (g : Game CM H d l a m A ts us) (S : Same H H') : Game CM H' d l a m A ts us := by
  obtain ⟨bs, b, x⟩ := g.D
  exact g.go ⟨bs, b, S _ _ x.hd, S _ _ x.hl, x.pos, x.len, x.b0, x.b1⟩ (KP.same S).sb
theorem Game.rows {CM : Addr} {H : Hp} {d l a m : Addr} {A : Nat} {ts us : List (Addr × List Int)} (g : Game CM H d l a m A ts us) : Rs A (rsOf ts) := g.R.rs
theorem DealAt.same {H H' : Hp} {d l : Addr} (x : DealAt H d l) (S : Same H H') : DealAt H' d l := by
  obtain ⟨bs, b, x⟩ := x
  exact ⟨bs, b, S _ _ x.hd, S _ _ x.hl, x.pos, x.len, x.b0, x.b1⟩
/-- what the top says of == of the class -/
structure EqT (P : Program) (w : World) (K : PySem.W.Frag) (mg : Str → Option Value) (base : Heap) (CM fE : Addr) (fdE : FuncData) : Prop where
  G : FnOk P w K mg base CX0 1 fE fdE P_Machine___eq (spEqM CM)
  b : Binds K fdE P_Machine___eq []
  T : TxE K mg CM fE
theorem stepsRes_first {A : Int} {ds : List PyData} {i : Nat} {e : PyData} (hi : ds[i]? = some e) (he : isE A (ds.length : Int) e = false) (h : ∀ d ∈ ds.take i, isE A (ds.length : Int) d = true) : stepsRes A (.list ds) = some (2 + (i : Int)) := by
  have hlt := cases_list hi
  have e1 : ds = ds.take i ++ e :: ds.drop (i + 1) := by
    rw [← drop_get hi, List.take_append_drop]
  have e0 : itemsD (.list ds) = ds := rfl
  unfold stepsRes
  rw [if_neg (fun q => q.elim (fun e => by cases e) fun e => by
    have e' : ds = [] := e
    rw [e'] at hlt
    simp at hlt), e0]
  have e2 : badAt A (ds.length : Int) ds 0 = some i := by
    have q : badAt A (ds.length : Int) (ds.take i ++ e :: ds.drop (i + 1)) 0 = some (0 + (ds.take i).length) := badAt_at he h
    rw [← e1, List.length_take, Nat.min_eq_left (by omega), Nat.zero_add] at q
    exact q
  rw [e2] <;> rfl
theorem dvAll_of {H : Hp} : ∀ {xs : List V} {ds : List PyData}, xs.length = ds.length → (∀ (k : Nat) y, xs[k]? = some y → ∃ d, ds[k]? = some d ∧ Dv H y d) → DvAll H xs ds
  | [], [], _, _ => .nil
  | [], _ :: _, h, _ => by simp at h
  | _ :: _, [], h, _ => by simp at h
  | x :: xs, d :: ds, h, f => by
    obtain ⟨d', e, Dx⟩ := f 0 x rfl
    have e' : d = d' := Option.some.inj e
    rw [← e'] at Dx
    exact .cons Dx (dvAll_of (Nat.succ.inj h) fun k y hk => f (k + 1) y hk)
theorem zero_rows {A : Nat} {rs : List (List Int)} (x : Rs A rs) (h : rs.length = 1) : rs = [List.replicate A 0] := by
  match rs, h with
  | [r], _ =>
    obtain ⟨h1, h2⟩ := x.row r List.mem_cons_self
    have e : r = List.replicate A 0 := List.eq_replicate_iff.mpr ⟨h1, fun z hz => by
      have := h2 z hz
      simp at this
      omega⟩
    rw [e]
theorem makeRes_int {A : Nat} {ds : PyData} (h : 0 < A) : makeRes (.int (A : Int)) ds = stepsRes (A : Int) ds := by
  unfold makeRes
  rw [if_neg (by
    show ¬ decide ((A : Int) ≤ 0) = true
    rw [decide_eq_false (by omega)]
    decide)]
  rfl
def spUnlike (CM : Addr) : Sp := fun vs H Q _ => ∃ (d l a m : Addr) (A : Nat) (ts us : List (Addr × List Int)), vs = [.ref d, .int (A : Int), .ref a, .ref m] ∧ Game CM H d l a m A ts us ∧ ∀ H', DealAt H' d l → SB d l H H' → Q (.bl true) H'
/-- a machine of rows in lists is made -/
theorem make_rows {CM CE : Addr} {H1 : Hp} {a : Addr} {A : Nat} {ts : List (Addr × List Int)} {Q : Addr → Hp → Prop} {E : XK} (hA : 0 < A) (h5 : A ≤ 1000) (G : GridAt H1 a ts) (R : Rs A (rsOf ts)) (hz : ts.length ≤ 1000)
    (h : ∀ H' m us, Same H1 H' → H1 m = none → MachAt CM H' m (A : Int) us → rsOf us = rsOf ts → Q m H') :
    ∀ x0 dx, H1 x0 = none → H1 dx = none → dx ≠ x0 → spInit CM CE (.ref x0 :: ([.int (A : Int), .ref a] ++ [])) (upd (upd H1 dx (.own x0)) x0 (.ins CM dx [])) (fun v H2 => v = .non ∧ Q x0 H2) E := by
  refine make_any (dc := .int (A : Int)) (ds := .list ((rsOf ts).map lstP)) (.int _) (.lst G.top (dv_rowsL G.row)) ?_ (fun e he => ?_) ?_
  · show ((rsOf ts).map lstP).length ≤ 1000
    rw [List.length_map, rsOf_len]
    exact hz
  · obtain ⟨r, hr, rfl⟩ := List.mem_map.mp he
    show (r.map PyData.int).length ≤ 1000
    rw [List.length_map, (R.row r hr).1]
    exact h5
  · have e : makeRes (.int (A : Int)) (.list ((rsOf ts).map lstP)) = none := by
      unfold makeRes
      rw [if_neg (by
        show ¬ decide ((A : Int) ≤ 0) = true
        rw [decide_eq_false (by omega)]
        decide)]
      exact stepsRes_rows (A := A) (g := lstP) rfl rfl (fun n r h => isE_lst h) R
    rw [e]
    refine fun H' m us S hm M eR => h H' m us S hm M ?_
    rw [eR]
    exact map_rowD rowD_lst _
section
variable {P : Program} {w : World} {K : PySem.W.Frag} {mg : Str → Option Value} {base : Heap} {CM CE fI fE : Addr} {fdI fdE : FuncData}
end
end Lk

set_option Elab.async false
set_option linter.all false
set_option maxRecDepth 100000
set_option maxHeartbeats 4000000
namespace Lk
open PySem L2
/-! ### what is shown by repr -/
structure Sh (d : PyData) : Prop where
  s : d.showable = true
  n : d.hasDict = false
  l : d.leavesShort 13 = true
  w : d.weight ≤ 1000000
  dp : d.depth ≤ 8
theorem Sh.size {d : PyData} (x : Sh d) : d.shown.length ≤ sizeLine := PyData.shown_fits (B := 13) (by decide) (by decide) x.l (Nat.le_trans x.w (by decide))
theorem weight_int {z : Int} (h : z.natAbs < 2 ^ 30) : (PyData.int z).weight ≤ 31 := by
  show (if z == 0 then 0 else z.natAbs.log2 + 1) ≤ 31
  by_cases h0 : (z == 0) = true
  · rw [if_pos h0]
    decide
  · rw [if_neg h0]
    have hz : z.natAbs ≠ 0 := by
      have : ¬ z = 0 := by simpa using h0
      omega
    have := (Nat.log2_lt hz).mpr h
    omega
theorem show_int {z : Int} (h : z.natAbs < 2 ^ 30) : (PyData.int z).showable = true ∧ (PyData.int z).leavesShort 13 = true := by
  refine ⟨decide_eq_true ?_, ?_⟩
  · by_cases hz : z.natAbs = 0
    · rw [hz]
      decide
    · exact Nat.lt_trans ((Nat.log2_lt hz).mpr h) (by decide)
  · exact decide_eq_true (PyData.shown_int_le (Nat.lt_trans h (by decide)))
theorem sh_int {z : Int} (h : z.natAbs < 2 ^ 30) : Sh (.int z) := ⟨(show_int h).1, rfl, (show_int h).2, Nat.le_trans (weight_int h) (by decide), by show 0 ≤ 8; decide⟩
theorem show_ints : ∀ {r : List Int}, (∀ z ∈ r, z.natAbs < 2 ^ 30) → PyData.showableAll (r.map PyData.int) = true ∧ PyData.hasDictAll (r.map PyData.int) = false ∧ PyData.leavesShortAll 13 (r.map PyData.int) = true ∧ PyData.weightAll (r.map PyData.int) ≤ 32 * r.length
  | [], _ => ⟨rfl, rfl, rfl, Nat.le_refl _⟩
  | z :: r, h => by
    obtain ⟨h1, h2, h3, h4⟩ := show_ints fun y hy => h y (List.mem_cons_of_mem _ hy)
    obtain ⟨i1, i2⟩ := show_int (h z List.mem_cons_self)
    have i3 := weight_int (h z List.mem_cons_self)
    refine ⟨?_, ?_, ?_, ?_⟩
    · show ((PyData.int z).showable && PyData.showableAll (r.map PyData.int)) = true
      rw [i1, h1] <;> rfl
    · show (false || PyData.hasDictAll (r.map PyData.int)) = false
      rw [h2] <;> rfl
    · show ((PyData.int z).leavesShort 13 && PyData.leavesShortAll 13 (r.map PyData.int)) = true
      rw [i2, h3] <;> rfl
    · show (PyData.int z).weight + 1 + PyData.weightAll (r.map PyData.int) ≤ 32 * (r.length + 1)
      omega
theorem sh_row {r : List Int} (h : ∀ z ∈ r, z.natAbs < 2 ^ 30) (hl : r.length ≤ 10000) : Sh (rowP r) := by
  obtain ⟨h1, h2, h3, h4⟩ := show_ints h
  refine ⟨h1, h2, h3, Nat.le_trans h4 (by omega), ?_⟩
  have e : (rowP r).depth = PyData.depthAll (r.map PyData.int) + 1 := rfl
  have := depth_ints r
  omega
theorem show_rows {m : Nat} : ∀ {rs : List (List Int)}, (∀ r ∈ rs, r.length ≤ m ∧ ∀ z ∈ r, z.natAbs < 2 ^ 30) → PyData.showableAll (rs.map rowP) = true ∧ PyData.hasDictAll (rs.map rowP) = false ∧ PyData.leavesShortAll 13 (rs.map rowP) = true ∧ PyData.weightAll (rs.map rowP) ≤ (32 * m + 1) * rs.length
  | [], _ => ⟨rfl, rfl, rfl, Nat.zero_le _⟩
  | r :: rs, h => by
    obtain ⟨h1, h2, h3, h4⟩ := show_rows fun y hy => h y (List.mem_cons_of_mem _ hy)
    obtain ⟨hl, hz⟩ := h r List.mem_cons_self
    obtain ⟨i1, i2, i3, i4⟩ := show_ints hz
    refine ⟨?_, ?_, ?_, ?_⟩
    · show (PyData.showableAll (r.map PyData.int) && PyData.showableAll (rs.map rowP)) = true
      rw [i1, h1] <;> rfl
    · show (PyData.hasDictAll (r.map PyData.int) || PyData.hasDictAll (rs.map rowP)) = false
      rw [i2, h2] <;> rfl
    · show (PyData.leavesShortAll 13 (r.map PyData.int) && PyData.leavesShortAll 13 (rs.map rowP)) = true
      rw [i3, h3] <;> rfl
    · show PyData.weightAll (r.map PyData.int) + 1 + PyData.weightAll (rs.map rowP) ≤ (32 * m + 1) * (rs.length + 1)
      have : 32 * r.length ≤ 32 * m := Nat.mul_le_mul_left _ hl
      rw [Nat.mul_add]
      omega
/-- a machine's fields, as they are told -/
def machP (A n : Int) (rs : List (List Int)) : PyData := .tuple [.int A, .int n, .tuple (rs.map rowP)]
theorem sh_mach {A n : Int} {rs : List (List Int)} (hA : A.natAbs < 2 ^ 30) (hn : n.natAbs < 2 ^ 30) (h : ∀ r ∈ rs, r.length ≤ 5 ∧ ∀ z ∈ r, z.natAbs < 2 ^ 30) (hl : rs.length ≤ 1000) : Sh (machP A n rs) := by
  obtain ⟨h1, h2, h3, h4⟩ := show_rows h
  obtain ⟨a1, a2⟩ := show_int hA
  obtain ⟨b1, b2⟩ := show_int hn
  have a3 := weight_int hA
  have b3 := weight_int hn
  refine ⟨?_, ?_, ?_, ?_, ?_⟩
  · show ((PyData.int A).showable && ((PyData.int n).showable && (PyData.showableAll (rs.map rowP) && true))) = true
    rw [a1, b1, h1] <;> rfl
  · show (false || (false || (PyData.hasDictAll (rs.map rowP) || false))) = false
    rw [h2] <;> rfl
  · show ((PyData.int A).leavesShort 13 && ((PyData.int n).leavesShort 13 && (PyData.leavesShortAll 13 (rs.map rowP) && true))) = true
    rw [a2, b2, h3] <;> rfl
  · show (PyData.int A).weight + 1 + ((PyData.int n).weight + 1 + (PyData.weightAll (rs.map rowP) + 1 + 0)) ≤ 1000000
    omega
  · have e : (machP A n rs).depth = max 0 (max 0 (max (PyData.depthAll (rs.map rowP) + 1) 0)) + 1 := rfl
    have := depth_rows rs
    omega
/-- repr of an int, or of lists and tuples -/
def rRepr (K : PySem.W.Frag) : List V → Hp → VK → Prop := fun xs H Q => ∃ (x : V) (d : PyData), xs = [x] ∧ Dp K H x d ∧ ((∃ i, x = .int i) ∨ ∃ a, x = .ref a) ∧ Sh d ∧ Q (.str d.shown) H
theorem call_repr {X : Cx} (hg : X.A.guards = some []) (hu : X.A.units + 16 < cLine) : CallR X (.builtin "repr") (rRepr X.K) := by
  intro pins s σ H xs us Q I r h
  obtain ⟨x, d, rfl, D, hk, sh, q⟩ := h
  obtain ⟨u, rfl, ru⟩ := Vals.one r
  rcases hk with ⟨i, rfl⟩ | ⟨a, rfl⟩
  · cases D
    obtain ⟨t, rfl⟩ := ru
    exact PySem.P.repr_of_int (of_decide_eq_true sh.s) ⟨.str _, H, I.tok _, ⟨_, rfl⟩, q⟩
  · obtain rfl : u = Value.ref a := ru
    obtain ⟨as, rd⟩ := Dp.reads I d _ _ D rfl
    refine PySem.repr_of_reads' rd sh.s (fun h' => by rw [sh.n] at h'; cases h') hg (by have := sh.dp; omega) (fun b o e => e) (fun h' w tk hk => ⟨.str d.shown, H, ?_, ⟨_, rfl⟩, q⟩) sh.size
    exact I.kept (t' := tk) hk
end Lk

set_option Elab.async false
set_option linter.all false
set_option maxRecDepth 100000
set_option maxHeartbeats 4000000
namespace Lk
open PySem PySem.Spec PyProof.Rows L2
/-! ### defs that run where no repr is under way -/
structure FnG (P : Program) (w : World) (K : PySem.W.Frag) (mg : Str → Option Value) (base : Heap) (k : Nat) (f : Addr) (fd : FuncData) (ps : List Str) (sp : Sp) : Prop where
  len : ∀ vs H Q E, sp vs H Q E → vs.length = ps.length
  run : ∀ (A : Around) (outer : List Env) (s : Shared) (H : Hp) (args : Args) (us : List Value) (vs : List V) (Q : VK) (E : XK), A.guards = some [] → Room k A → Env0 P w K mg base A outer s H → BindsTo s fd args (ps.zip us) → Vals vs us → sp vs H Q E →
    codeAny (model P w) A (.call (.ref f) args) (CR CX0 outer P w H s Q E) s
section
variable {P : Program} {w : World} {K : PySem.W.Frag} {mg : Str → Option Value} {base : Heap}
theorem Fun.okG {x qual : Str} {st : Stmt} {f : Addr} {fd : FuncData} {N ps : List Str} {k : Nat} {sp : Sp} (F : Fun K x qual st f fd) (S : FnScope N ps (defScope st)) (len : ∀ vs H Q E, sp vs H Q E → vs.length = ps.length)
    (body : ∀ (cdv : Value) (A : Around) (outer : List Env) (s : Shared) (H : Hp) (vs : List V) (Q : VK) (E : XK), A.guards = some [] → Room k (A.deeper (envOfC qual (defScope st) s.heap.objs.size f cdv)) → sp vs H Q E →
      ∃ t, PSs (cxOf CX0 P w K mg base N qual (defScope st) f cdv A outer s H E).nox (defBody st) t ∧ t { nx := fun _ H' => Q .non H', rt := Q } (start N vs) H) : FnG P w K mg base (k + 1) f fd ps sp := by
  obtain ⟨oc, od, kV, doc, pm, an, cdv, ct, osl, rfl, lk, hcd⟩ := F.ex
  refine ⟨len, fun A outer s H args us vs Q E hg hr e0 hb r h => ?_⟩
  have keep : ∀ b o, base.get? b = some o → s.heap.get? b = some o := fun b o e => (e0.bs b o e).1
  have kx := e0.mod.kin.keeps keep
  have kinds : ∀ q ∈ ps.zip us, (defScope st).names.lookup q.1 = some .local ∨ ((defScope st).names.lookup q.1 = some .cell ∧ ((cellsFrom (s.heap.objs.size + 1) (defScope st).names []).lookup q.1).isSome = true) := fun q hq => by
    rcases S.par q.1 (List.of_mem_zip hq).1 with z | z
    · exact .inl z
    · exact .inr ⟨z, PySem.W.cellsFrom_some _ _ _ (.inl z)⟩
  refine codeAny_call_function hr.depth (kx _ _ lk) rfl S.co S.gen rfl (PySem.W.codeRec_of kx hcd) (hb _ _ _ _ (wpAny_newFunctionEnv_cells S.kind kinds fun env he s1 z => ?_))
  subst he
  refine ⟨(e0.mod.nolimit.keeps keep).keeps z.toInCall.keep, codeAny_func ?_⟩
  obtain ⟨t, ht, q⟩ := body cdv A outer s H vs Q E hg (hr.deeper _) h
  have I := inv_start (CX := CX0) (E := E) (mg := mg) (f := f) (cd := cdv) (qual := qual) S hr.hd e0 (len _ _ _ _ h) r z
  refine wpAny_mono (ht.nox.run [] s1 (start N vs) H _ I q) (fun fl s2 hs => ?_) fun e s2 hs => hs
  match fl, hs with
  | .ret u, ⟨v, σ2, H2, J, rv, k⟩ => exact ⟨v, H2, J.os, J.bare, J.base, J.hok, rv, k⟩
  | .next, ⟨σ2, H2, J, k⟩ => exact ⟨.non, H2, J.os, J.bare, J.base, J.hok, rfl, k⟩
  | .brk, ⟨_, _, _, k⟩ => exact k.elim
  | .cont, ⟨_, _, _, k⟩ => exact k.elim
end
section
variable {X : Cx} {k : Nat} {f : Addr} {fd : FuncData} {ps : List Str} {sp : Sp} {x : Str} {p pos : Pos} {e : Expr} {es : List Expr} {t : TA}
theorem pe_callG (G : FnG X.prog X.w X.K X.mg X.base k f fd ps sp) (quiet : X.A.guards = some []) (room : Room k X.A) (gx : Gl X x) (mx : X.mg x = some (.ref f)) (kp : PySem.W.keepIn X.K (.ref f) = true) (bd : Binds X.K fd ps []) (args : PA X (e :: es) t)
    (h1 : (x == ("__debug__" : Str)) = false := by decide) (h2 : starEach (e :: es) X.env = (false, eval e X.env) :: starEach es X.env := by rfl) (h3 : (backTo pos (starEach es X.env)).any (·.1) = false := by rfl) :
    PE X (.Call (.Name x p) (e :: es) [] pos) (tCall sp [] E0 t) := by
  refine ⟨fun pins s σ H Q I h => wpAny_Call_Name_kw (ld_glob I gx mx (PySem.W.callWith_K (h₀ := X.base) I.ok.mod.kin kp (thn (args.run pos pins s σ H _ I h) fun us s1 ⟨vs, H1, I1, r, q⟩ => ⟨I1.kIn, ?_⟩) h2 h3) h1)⟩
  have q : sp (vs ++ []) H1 Q E0 := q
  rw [List.append_nil] at q
  have hl : us.length = ps.length := by rw [← r.length]; exact G.len _ _ _ _ q
  have b := bd s1 us I1.kIn (by rw [List.append_nil]; exact hl)
  rw [List.append_nil] at b
  refine wpAny_call (codeAny_mono (G.run X.A X.stack s1 H1 ⟨us, []⟩ us vs Q E0 quiet room I1.env0 b r q) fun z s2 q2 => ?_)
  match z, q2 with
  | .error e, q2 => exact q2.elim
  | .ok (.ret u), q2 => exact I1.after q2
  | .ok .next, q2 => exact q2.elim
  | .ok .brk, q2 => exact q2.elim
  | .ok .cont, q2 => exact q2.elim
end
end Lk

set_option Elab.async false
set_option linter.all false
set_option maxRecDepth 100000
set_option maxHeartbeats 4000000
/-! the law's end, for a law that runs where no repr is under way -/
namespace Lk
open PySem PySem.Spec PyProof.Rows L2
section
variable {P : Program} {w : World} {K : PySem.W.Frag} {mg mb : Str → Option Value} {k : Nat} {fa a : Addr} {fd : FuncData} {x : Str} {sp : Sp} {s : Shared} {vs : List Value} {ns : List Int}
/-- what the law's call leaves -/
abbrev Fine (s : Shared) (r : Result) (s' : Shared) : Prop := r = .ok (.ret (.bool true)) ∧ OldK s.heap s'.heap ∧ s'.os = s.os ∧ AllBare s'.gens
/-- H: what is told of the heap, the script alone or nothing -/
theorem core_G {H : Hp} (kx : K.In s.heap) (gl : s.heap.Ns mainGlobals mg) (bl : s.heap.Ns builtinsNs mb) (bb : ∀ y : Str, y ≠ "__name__" → mb y = bootBuiltins y) (lim : s.heap.NoLimit) (gens : s.gens = #[]) (obj : s.heap.get? a = some { cls := .type "list", data := .seq vs.toArray }) (room : Room k callerA)
    (F : ∀ base : Heap, K.In base → base.Ns mainGlobals mg → FnG P w K mg base k fa fd [x] sp) (bind : ∀ (s : Shared) (u : Value), BindsTo s fd ⟨[u], []⟩ [(x, u)]) (at_a : ∀ b u, H b = some u → b = a ∧ ∃ o ys, u = .frz o (.lst ys)) (ok : HOk P w H s.heap) (un : H a ≠ none → K.lookup a = none)
    (h : sp [.ref a] H (fun v _ => v = .bl true) fun _ _ _ => False) : codeAny (model P w) callerA (.call (.ref fa) ⟨[.ref a], []⟩) (Fine s) s := by
  have other : ∀ b, b ≠ a → H b = none := fun b n => by
    cases q : H b with
    | none => rfl
    | some u => exact absurd (at_a b u q).1 n
  have stays : ∀ {b : Addr} {m : Str → Option Value}, s.heap.Ns b m → (hidT s.heap H).Ns b m := fun {b m} ⟨o, es, ep, e, d, r⟩ => by
    refine ⟨o, es, ep, hidT_get e (other b fun z => ?_), d, r⟩
    subst z
    rw [obj] at e
    cases e
    cases (show Data.seq vs.toArray _ = Data.dict es ep from d)
  have kin : K.In (hidT s.heap H) := fun b o e => hidT_get (kx b o e) (by
    cases q : H b with
    | none => rfl
    | some u =>
      have z := (at_a b u q).1
      subst z
      rw [un (by rw [q]; simp)] at e
      cases e)
  obtain ⟨mc, l1, l2⟩ := lim
  have e0 : Env0 P w K mg (hidT s.heap H) callerA [] s H := ⟨rfl, ⟨kin, stays gl, ⟨mb, stays bl, bb⟩, ⟨mc, stays l1, l2⟩⟩, fun b o e => of_hidT e, Nat.le_of_eq (hidT_size _ _), trivial, (fun b hb => by cases (show b ∈ ([] : List Addr) from hb)), ok, .of_eq gens⟩
  refine codeAny_mono ((F _ kin (stays gl)).run callerA [] s H ⟨[.ref a], []⟩ [.ref a] [.ref a] _ _ rfl room e0 (bind s (.ref a)) (.cons rfl .nil) h) fun r s2 q => ?_
  match r, q with
  | .error e, q => exact q.elim
  | .ok .next, q => exact q.elim
  | .ok .brk, q => exact q.elim
  | .ok .cont, q => exact q.elim
  | .ok (.ret u), ⟨v, H2, os, bare, ub, ok2, rv, ev⟩ =>
    have ev' : v = .bl true := ev
    subst ev'
    obtain rfl : u = Value.bool true := rv
    refine ⟨rfl, OldK.of_keep fun b o e => ?_, os, bare⟩
    cases q : H b with
    | none => exact ub.keep b o e q (by simp [frs]) (by simp)
    | some t =>
      obtain ⟨_, ob, ys, rfl⟩ := at_a b t q
      have f1 := ok b _ q
      have f2 := ok2 b _ (ub.frzs b ob _ q)
      obtain ⟨g1, _⟩ := f1
      obtain ⟨g2, _⟩ := f2
      rw [e] at g1
      cases g1
      exact g2
theorem law_callG (kx : K.In s.heap) (gl : s.heap.Ns mainGlobals mg) (bl : s.heap.Ns builtinsNs mb) (bb : ∀ y : Str, y ≠ "__name__" → mb y = bootBuiltins y) (lim : s.heap.NoLimit) (gens : s.gens = #[]) (obj : s.heap.get? a = some { cls := .type "list", data := .seq vs.toArray }) (its : IntsAre vs ns) (len : ns.length ≤ sizeLine) (room : Room k callerA)
    (F : ∀ base : Heap, K.In base → base.Ns mainGlobals mg → FnG P w K mg base k fa fd [x] sp) (bind : ∀ (s : Shared) (u : Value), BindsTo s fd ⟨[u], []⟩ [(x, u)])
    (h : ∀ H : Hp, SqL K H a (ns.map V.int) → sp [.ref a] H (fun v _ => v = .bl true) fun _ _ _ => False) : codeAny (model P w) callerA (.call (.ref fa) ⟨[.ref a], []⟩) (Fine s) s := by
  cases q : K.lookup a with
  | some o =>
    have e := kx a o q
    rw [obj] at e
    cases e
    exact core_G (H := fun _ => none) kx gl bl bb lim gens obj room F bind (fun _ _ z => by cases z) (fun _ _ z => by cases (show (none : Option HO) = some _ from z)) (fun z => absurd rfl z) (h _ (.inr ⟨_, vs.toArray, _, q, rfl, rfl, rfl, by rw [List.size_toArray, its.length]; exact len, by simpa using vals_ints its⟩))
  | none =>
    refine core_G (H := fun b => if b = a then some (.frz { cls := .type "list", data := .seq vs.toArray } (.lst (ns.map V.int))) else none) kx gl bl bb lim gens obj room F bind (fun b u z => ?_) (fun b u z => ?_) (fun _ => q) (h _ (.inl (.inr ⟨_, if_pos rfl⟩)))
    · by_cases hb : b = a
      · exact ⟨hb, _, _, (Option.some.inj ((if_pos hb).symm.trans z)).symm⟩
      · cases (if_neg hb).symm.trans z
    · by_cases hb : b = a
      · cases (if_pos hb).symm.trans z
        subst hb
        exact ⟨obj, by rw [List.length_map]; exact len, vs, _, vals_ints its, obj⟩
      · cases (if_neg hb).symm.trans z
end
theorem walk_G {l : PySem.W.OpenLaw} {n k : Nat} {q : Program} {loose : List Str} {XP : (Str → Option Value) → Heap → Prop} {YP : World → Heap → Prop} {d : DefRec} {K : Params → PySem.W.Frag} {sp : World → Sp} {x : Str} (hn : l.most = some n) (hn2 : n ≤ sizeLine) (hdf : d.params.defaults = []) (room : Room k callerA)
    (inn : ∀ (w : World) (h : Heap), YP w h → (K w.params).In h)
    (F : ∀ (w : World) (mg : Str → Option Value) (fa : Addr) (h : Heap), (K w.params).In h → h.Ns mainGlobals mg → mg d.name = some (.ref fa) → ∃ fd : FuncData, (∀ (s : Shared) (u : Value), BindsTo s fd ⟨[u], []⟩ [(x, u)]) ∧ ∀ base : Heap, (K w.params).In base → base.Ns mainGlobals mg → FnG l.prog w (K w.params) mg base k fa fd [x] (sp w))
    (h : ∀ (w : World) (H : Hp) (a : Addr) (ns : List Int), ns.length ≤ n → SqL (K w.params) H a (ns.map V.int) → sp w [.ref a] H (fun v _ => v = .bl true) fun _ _ _ => False) : PySem.W.WalkO q loose XP YP l.row.toRowW d [] (fun f vs => PySem.call f vs) := by
  refine Att.attach_call hn hdf fun w s0 s1 mg mb fa o pm cd doc a vs ns G Y ho hd hcd hmg obj its len gens => ?_
  obtain ⟨fd, b, f⟩ := F w mg fa _ (inn w _ Y) G.T.g hmg
  exact law_callG (inn w _ Y) G.T.g G.T.b G.T.builtins G.T.nolimit gens obj its (Nat.le_trans len hn2) room f b fun H hS => h w H a ns len hS
end Lk

set_option Elab.async false
set_option linter.all false
set_option maxRecDepth 100000
set_option maxHeartbeats 4000000
namespace Lk
open PySem L2
theorem joinName {te : TE} {g : TG} {rest : TS} {D : Ends} {i : Nat} {v : V} {σ : St} {H : Hp} {f : St → Hp → Prop} (e : f = tSeq (tAsg te g) rest D) (R : V → Hp → Prop) (h : ∀ Q' : VK, (∀ v H', R v H' → Q' v H') → te (σ.set i (some v)) H Q') (k : ∀ u H', R u H' → g u (σ.set i (some v)) H' (rest D)) : gName i v σ H f := by
  subst e
  exact h _ k
theorem joinNx {te : TE} {g : TG} {rest : TS} {D : Ends} {σ : St} {H : Hp} {f : St → Hp → Prop} (e : f = tSeq (tAsg te g) rest D) (R : V → Hp → Prop) (h : ∀ Q' : VK, (∀ v H', R v H' → Q' v H') → te σ H Q') (k : ∀ u H', R u H' → g u σ H' (rest D)) : f σ H := by
  subst e
  exact h _ k
theorem joinIf {c : TT} {t rest : TS} {D : Ends} {σ : St} {H : Hp} {f : St → Hp → Prop} (e : f = tSeq (tIfS c t tNext) rest D) (R : Hp → Prop) (h : ∀ Q' : Bool → Hp → Prop, (∀ H', R H' → Q' false H') → c σ H Q') (k : ∀ H', R H' → rest D σ H') : f σ H := by
  subst e
  exact h _ fun H' r => iteF (k H' r)
theorem joinNameIf {c : TT} {t rest : TS} {D : Ends} {i : Nat} {v : V} {σ : St} {H : Hp} {f : St → Hp → Prop} (e : f = tSeq (tIfS c t tNext) rest D) (R : Hp → Prop) (h : ∀ Q' : Bool → Hp → Prop, (∀ H', R H' → Q' false H') → c (σ.set i (some v)) H Q') (k : ∀ H', R H' → rest D (σ.set i (some v)) H') : gName i v σ H f := by
  subst e
  exact h _ fun H' r => iteF (k H' r)
/-- a machine of rows in tuples is made -/
theorem make_rowsT {CM CE : Addr} {H1 : Hp} {q : Addr} {A : Nat} {vs : List (Addr × List Int)} {Q : Addr → Hp → Prop} {E : XK} (hA : 0 < A) (h5 : A ≤ 1000) (hq : H1 q = some (.tup (vs.map fun u => V.ref u.1))) (rows : ∀ u ∈ vs, H1 u.1 = some (.tup (u.2.map V.int))) (R : Rs A (rsOf vs)) (hz : vs.length ≤ 1000)
    (h : ∀ H' m us, Same H1 H' → H1 m = none → MachAt CM H' m (A : Int) us → rsOf us = rsOf vs → Q m H') :
    ∀ x0 dx, H1 x0 = none → H1 dx = none → dx ≠ x0 → spInit CM CE (.ref x0 :: ([.int (A : Int), .ref q] ++ [])) (upd (upd H1 dx (.own x0)) x0 (.ins CM dx [])) (fun v H2 => v = .non ∧ Q x0 H2) E := by
  refine make_any (dc := .int (A : Int)) (ds := .tuple ((rsOf vs).map rowP)) (.int _) (.tup hq (dv_rowsT rows)) ?_ (fun e he => ?_) ?_
  · show ((rsOf vs).map rowP).length ≤ 1000
    rw [List.length_map, rsOf_len]
    exact hz
  · obtain ⟨r, hr, rfl⟩ := List.mem_map.mp he
    show (r.map PyData.int).length ≤ 1000
    rw [List.length_map, (R.row r hr).1]
    exact h5
  · have e : makeRes (.int (A : Int)) (.tuple ((rsOf vs).map rowP)) = none := by
      rw [makeRes_int hA]
      exact stepsRes_rows (A := A) (g := rowP) rfl rfl (fun n r h => isE_tup h) R
    rw [e]
    refine fun H' m us S hm M eR => h H' m us S hm M ?_
    rw [eR]
    exact map_rowD rowD_tup _
theorem Game.upd {CM : Addr} {H : Hp} {d l a m b : Addr} {A : Nat} {ts us : List (Addr × List Int)} {xs : List V} {o : HO} (g : Game CM H d l a m A ts us) (hb : H b = some (.lst xs)) (nb : ¬ dl d l b) (na : a ≠ b) (nt : ∀ t ∈ ts, t.1 ≠ b) : Game CM (L2.upd H b o) d l a m A ts us :=
  ⟨g.D.upd nb, ⟨(upd_ne na).trans g.G.top, fun t ht => (upd_ne (nt t ht)).trans (g.G.row t ht)⟩, g.na, g.nt, g.R, g.A0, g.A5, g.hz, g.M.nl (NL.upd hb), g.e⟩
theorem sb_upd {d l b : Addr} {H H' : Hp} {o : HO} (x : SB d l H H') (h : H b = none) : SB d l H (upd H' b o) := (x.kp.mut h).sb
/-- rows in tuples, in a tuple -/
structure Wh (H : Hp) (q : Addr) (vs : List (Addr × List Int)) : Prop where
  top : H q = some (.tup (vs.map fun u => V.ref u.1))
  row : ∀ u ∈ vs, H u.1 = some (.tup (u.2.map V.int))
theorem Wh.same {H H' : Hp} {q : Addr} {vs : List (Addr × List Int)} (x : Wh H q vs) (S : Same H H') : Wh H' q vs := ⟨S _ _ x.top, fun u hu => S _ _ (x.row u hu)⟩
/-- the game, with a row, and the row as it is told -/
structure Play (CM : Addr) (H : Hp) (d l a m : Addr) (A : Nat) (ts us : List (Addr × List Int)) (rq b : Addr) (ns : List Int) (dy : PyData) : Prop where
  g : Game CM H d l a m A ts us
  r : H rq = some (.tup (ns.map V.int))
  nr : ¬ dl d l rq
  nb : ¬ dl d l b
  t : (H b = some (.lst (ns.map V.int)) ∧ dy = .list (ns.map PyData.int)) ∨ (H b = some (.tup (ns.map V.int)) ∧ dy = .tuple (ns.map PyData.int))
section
variable {CM : Addr} {H H' : Hp} {d l a m rq b : Addr} {A : Nat} {ts us : List (Addr × List Int)} {ns : List Int} {dy : PyData}
theorem Play.go (x : Play CM H d l a m A ts us rq b ns dy) (D' : DealAt H' d l) (S : SB d l H H') : Play CM H' d l a m A ts us rq b ns dy :=
  ⟨x.g.go D' S, S.kp.get x.nr x.r, x.nr, x.nb, x.t.elim (fun z => .inl ⟨S.kp.get x.nb z.1, z.2⟩) fun z => .inr ⟨S.kp.get x.nb z.1, z.2⟩⟩
theorem Play.same (x : Play CM H d l a m A ts us rq b ns dy) (S : Same H H') : Play CM H' d l a m A ts us rq b ns dy := x.go (x.g.same S).D (KP.same S).sb
theorem Play.new {p : Addr} {o : HO} (x : Play CM H d l a m A ts us rq b ns dy) (h : H p = none) : Play CM (upd H p o) d l a m A ts us rq b ns dy := x.same (Same.new h)
theorem Play.dv (x : Play CM H d l a m A ts us rq b ns dy) : Dv H (.ref b) dy := by
  rcases x.t with ⟨h, rfl⟩ | ⟨h, rfl⟩
  · exact .lst h (dvAll_ints _)
  · exact .tup h (dvAll_ints _)
theorem Play.items (x : Play CM H d l a m A ts us rq b ns dy) : isS dy = true ∧ itemsD dy = ns.map PyData.int := by
  rcases x.t with ⟨h, rfl⟩ | ⟨h, rfl⟩
  · exact ⟨rfl, rfl⟩
  · exact ⟨rfl, rfl⟩
end
theorem badV_ok {A : Int} : ∀ {ns : List Int} {i : Nat}, (∀ z ∈ ns, 0 ≤ z ∧ z < A) → badV A (ns.map PyData.int) i = none
  | [], _, _ => rfl
  | z :: ns, i, h => by
    have q := h z List.mem_cons_self
    have e : isB A (.int z) = true := by
      show (decide (0 ≤ z) && decide (z < A)) = true
      rw [decide_eq_true q.1, decide_eq_true q.2] <;> rfl
    rw [List.map_cons, badV_cons, if_pos e]
    exact badV_ok fun y hy => h y (List.mem_cons_of_mem _ hy)
theorem dp_ref {K : PySem.W.Frag} {H : Hp} {v : V} {ds : List PyData} (h : Dp K H v (.tuple ds)) : ∃ a, v = .ref a := by
  cases h with
  | tup _ _ => exact ⟨_, rfl⟩
theorem dp_int {K : PySem.W.Frag} {H : Hp} {v : V} {i : Int} (h : Dp K H v (.int i)) : v = .int i := by
  cases h
  rfl
theorem powG_in {n : Nat} : ∀ {k t : Nat} {a b : List Int}, InR n a → InR n b → InR n (powG k t a b)
  | 0, _, _, _, _, hb => hb
  | k + 1, t, a, b, ha, hb => by
    unfold powG
    by_cases h : t = 0
    · rw [if_pos h]
      exact hb
    · rw [if_neg h]
      refine powG_in (ha.comp ha) ?_
      by_cases h2 : t % 2 = 1
      · rw [if_pos h2]
        exact hb.comp ha
      · rw [if_neg h2]
        exact hb
mutual
theorem dp_same {K : PySem.W.Frag} {H H' : Hp} (S : Same H H') : ∀ {v : V} {d : PyData}, Dp K H v d → Dp K H' v d
  | _, _, .non => .non
  | _, _, .bl b => .bl b
  | _, _, .int i => .int i
  | _, _, .str x => .str x
  | _, _, .lst h t => .lst (Same.seq S h) (dpAll_same S t)
  | _, _, .tup h t => .tup (sameT S h) (dpAll_same S t)
theorem dpAll_same {K : PySem.W.Frag} {H H' : Hp} (S : Same H H') : ∀ {vs : List V} {ds : List PyData}, DpAll K H vs ds → DpAll K H' vs ds
  | _, _, .nil => .nil
  | _, _, .cons h t => .cons (dp_same S h) (dpAll_same S t)
end
/-- what v is, whatever is drawn -/
def KDv (d l : Addr) (H : Hp) (v : V) (e : PyData) : Prop := ∀ H', SB d l H H' → Dv H' v e
theorem KDv.dv {d l : Addr} {H : Hp} {v : V} {e : PyData} (x : KDv d l H v e) : Dv H v e := x H (SB.refl d l H)
theorem KDv.go {d l : Addr} {H H1 : Hp} {v : V} {e : PyData} (x : KDv d l H v e) (S : SB d l H H1) : KDv d l H1 v e := fun H' S' => x H' (S.trans S')
theorem rSlA_ok {K : PySem.W.Frag} {H : Hp} {rq : Addr} {xs : List V} {lo hi : Option Int} {Q : VK} (h : SqT K H rq xs) (k : ∀ H' p, Same H H' → SqT K H' p (cutV xs lo hi) → Q (.ref p) H') : rSlA K (.ref rq) lo hi H Q := by
  refine ⟨rq, xs, rfl, h, fun e => k H rq (Same.refl _) ?_, fun _ p hp => k _ p (Same.new hp) (SqT.of upd_same)⟩
  have e2 : cutV xs lo hi = xs := by
    unfold cutV
    rw [e.1, e.2, List.drop_zero, Nat.sub_zero, List.take_length]
  rw [e2]
  exact h
theorem badV_at {A : Int} {e : PyData} (he : isB A e = false) : ∀ {ns : List Int} {post : List PyData} {i : Nat}, (∀ z ∈ ns, 0 ≤ z ∧ z < A) → badV A (ns.map PyData.int ++ e :: post) i = some (i + ns.length)
  | [], _, _, _ => by
    show badV A (e :: _) _ = _
    rw [badV_cons, if_neg (by rw [he]; decide)]
    rfl
  | z :: ns, post, i, h => by
    have q := h z List.mem_cons_self
    have e1 : isB A (.int z) = true := by
      show (decide (0 ≤ z) && decide (z < A)) = true
      rw [decide_eq_true q.1, decide_eq_true q.2] <;> rfl
    show badV A (.int z :: (ns.map PyData.int ++ e :: post)) i = _
    rw [badV_cons, if_pos e1, badV_at he fun x hx => h x (List.mem_cons_of_mem _ hx), List.length_cons]
    congr 1
    omega
theorem isB_self {n : Int} : isB n (.int n) = false := by
  show (decide (0 ≤ n) && decide (n < n)) = false
  rw [decide_eq_false (show ¬ n < n by omega), Bool.and_false]
theorem noPart {σ : St} {H : Hp} {Q : Option Int → Hp → Prop} (h : Q none H) : tNoPart σ H Q := h
theorem eqv_pair (s : Str) (i : Int) : PyData.eqv (.tuple [.str s, .int i]) (.tuple [.str s, .int i]) = true := by
  show ((s == s) && ((i == i) && true)) = true
  simp
theorem shaped_row (i : Int) : SeqAt.shaped (.tuple [.str "row", .int i]) = true := by
  have h1 : PyData.canLay0 (.tuple [.str "row", .int i]) = true := by
    show (PyData.canLay0 (.str "row") && (true && true)) = true
    rw [show PyData.canLay0 (.str "row") = true by decide +kernel] <;> rfl
  have h2 : PyData.depth (.tuple [.str "row", .int i]) ≤ 64 := by
    show max 0 (max 0 0) + 1 ≤ 64
    decide
  unfold SeqAt.shaped
  rw [h1, Bool.true_and]
  exact decide_eq_true h2
theorem shaped_ref (i : Int) : SeqAt.shaped (.tuple [.str "refused", .int i]) = true := by
  have h1 : PyData.canLay0 (.tuple [.str "refused", .int i]) = true := by
    show (PyData.canLay0 (.str "refused") && (true && true)) = true
    rw [show PyData.canLay0 (.str "refused") = true by decide +kernel] <;> rfl
  have h2 : PyData.depth (.tuple [.str "refused", .int i]) ≤ 64 := by
    show max 0 (max 0 0) + 1 ≤ 64
    decide
  unfold SeqAt.shaped
  rw [h1, Bool.true_and]
  exact decide_eq_true h2
theorem rowRes_no {A : Int} {e : PyData} (h : isS e = false) : rowRes A e = some 0 := by
  unfold rowRes
  rw [if_pos h]
theorem rows_ok {A : Nat} {os : List (Addr × List Int)} (x : Rs A (rsOf os)) : RowsOk A os := by
  refine ⟨by have := x.pos; rw [rsOf_len] at this; exact this, fun t ht => ?_⟩
  have := x.row t.2 (List.mem_map.mpr ⟨t, ht, rfl⟩)
  rw [rsOf_len] at this
  exact this
end Lk

set_option Elab.async false
set_option linter.all false
set_option maxRecDepth 100000
set_option maxHeartbeats 4000000
/-! sorted of a list or a tuple of pairs of ints -/
namespace Lk
open PySem PyProof.Rows Srt SrtO
section
variable {prog : Program} {w : World} {A : Around} {E : Value → Shared → Prop} {s : Shared}
theorem collect_seqE {it : Addr} {T : String} {o : Obj} {items : Array Value} {n : Nat} {Q : List Value → Shared → Prop} (hT : T = "list" ∨ T = "tuple") (ho : s.heap.get? it = some o) (hc : o.cls = .type T) (hd : o.data = .seq items n) (hz : items.size ≤ sizeLine)
    (q : Q items.toList { s with heap := (s.heap.push (seqObj "list" #[] 0)).update s.heap.objs.size (Obj.mapSeq (· ++ items)) }) : wpAny (model prog w) A (PySem.collect (.ref it)) Q E s := by
  have e0 : (s.heap.push (seqObj "list" #[] 0)).get? s.heap.objs.size = some (seqObj "list" #[] 0) := Heap.get?_push_size _ rfl
  have after : wpAny (model prog w) A (do
      let o ← load s.heap.objs.size
      match o.data with
      | .seq xs _ => pure xs.toList
      | _ => unsupported "internal:collect") Q E { s with heap := (s.heap.push (seqObj "list" #[] 0)).update s.heap.objs.size (Obj.mapSeq (· ++ items)) } := by
    refine wpAny_bind (wpAny_load (get?_update_seq e0 _) ?_)
    show wpAny _ _ (pure ((#[] : Array Value) ++ items).toList) Q E _
    rw [show ((#[] : Array Value) ++ items).toList = items.toList by simp]
    exact wpAny_pure q
  unfold PySem.collect
  refine wpAny_bind (wpAny_runValue (codeAny_builtin F.entry_proto_collect (by
    rw [Around.under_plainId F.plain_proto_collect _]
    show wpAny _ A.in1 (newList [] >>= fun l => again (.builtin "list.__iadd__" ⟨[l, .ref it], []⟩)) _ _ s
    refine wpAny_bind (wpAny_newObj_type (wpAny_pure ⟨plainId_quiet F.plain_list_iadd _, codeAny_builtin F.entry_list_iadd ?_⟩))
    rw [Around.under_plainId F.plain_list_iadd _]
    show wpAny _ A.in1 (Builtin.List.listExtendWith (.ref s.heap.objs.size) (.ref it) (.ref s.heap.objs.size)) _ _ _
    refine wpAny_mono (wpAny_extend_seq (hsz := hz) (A := A) (R := fun r s' => r = .ok (.ret (.ref s.heap.objs.size)) ∧ s' = { s with heap := (s.heap.push (seqObj "list" #[] 0)).update s.heap.objs.size (Obj.mapSeq (· ++ items)) }) (s := { s with heap := s.heap.push (seqObj "list" #[] 0) }) _ it _ 0 hT e0 (Heap.get?_push_of_some _ ho) hc hd ⟨rfl, rfl⟩) (fun fin s' h => ?_) (fun e s' h => ?_)
    · match fin, h with
      | .done f, ⟨e, e2⟩ =>
        subst e2
        cases e
        exact after
      | .again c, h => exact ⟨h.1, codeAny_mono h.2 fun r s2 hr => by
          obtain ⟨rfl, rfl⟩ := hr
          exact after⟩
    · exact absurd h.1 (by simp))))
theorem sorted_seq {l : Addr} {o : Obj} {n : Nat} {T : String} {vs : List Value} {k : Value → Int × Int} {Q : Value → Shared → Prop} (hT : T = "list" ∨ T = "tuple") (ho : s.heap.get? l = some o) (hc : o.cls = .type T) (hd : o.data = .seq vs.toArray n) (hz : vs.length ≤ sizeLine) (hp : ∀ v ∈ vs, IsPair s.heap v (k v).1 (k v).2)
    (h : ∀ (h' : Heap) (d : Addr) (out : List Value), Srtd (fun v u => lexB (k v) (k u)) out → Stb (fun v u => lexB (k v) (k u)) out vs → (∀ b o, s.heap.get? b = some o → h'.get? b = some o) → s.heap.objs.size ≤ d → (∃ n, h'.get? d = some (seqObj "list" out.toArray n)) → Q (.ref d) { s with heap := h' }) : wpAny (model prog w) A (call (.builtin "sorted") [.ref l]) Q E s := by
  refine Calls.call_function_entry kind_sorted plain_sorted entry_sorted (args_sorted1 _) ?_
  unfold Builtin.«sorted»
  refine wpAny_bind (m := checkCount "sorted" 1 1 _) (wpAny_pure (wpAny_bind (collect_seqE hT ho hc hd (by simpa using hz) ?_)))
  obtain ⟨h1, e1⟩ : ∃ h1, h1 = (s.heap.push (seqObj "list" #[] 0)).update s.heap.objs.size (Obj.mapSeq (· ++ vs.toArray)) := ⟨_, rfl⟩
  have z1 : h1.objs.size = s.heap.objs.size + 1 := by rw [e1, Heap.size_update, size_push']
  have k1 : ∀ b o, s.heap.get? b = some o → h1.get? b = some o := fun b o e => by
    rw [e1, Heap.get?_update_ne _ _ _ _ (Nat.ne_of_lt (Heap.lt_size e))]
    exact Heap.get?_push_of_some _ e
  rw [← e1]
  refine wpAny_bind (wpAny_newList ?_ (by simpa using hz))
  have hN : (h1.push (seqObj "list" vs.toArray 0)).get? h1.objs.size = some (seqObj "list" vs.toArray 0) := Heap.get?_push_size _ rfl
  have old : ∀ b o, s.heap.get? b = some o → b ≠ h1.objs.size ∧ (h1.push (seqObj "list" vs.toArray 0)).get? b = some o := fun b o e => ⟨Nat.ne_of_lt (Heap.lt_size (k1 b o e)), Heap.get?_push_of_some _ (k1 b o e)⟩
  refine wpAny_bind (wpAny_holding (wpAny_call_entry slot_list_sort ⟨_, hN, rfl⟩ entry_list_sort (list_sort_ord (swo_lex k) hN hz (fun h2 => ?_) fun out hs hb => ⟨_, rfl, wpAny_pure ⟨_, rfl, ?_⟩⟩) (args_list_sort _)))
  · refine pairs_sortableO (s := { s with heap := h1.push (seqObj "list" vs.toArray 0) }) (by omega) (fun v hm => (hp v hm).keeps fun b o e _ => (old b o e).2) fun o e c => ?_
    have e' := e.symm.trans hN
    cases e'
    exact absurd (Value.type.inj c) (by decide)
  · refine h _ h1.objs.size out hs hb (fun b o e => ?_) ?_ (sortedHeap_at hN)
    · have q := old b o e
      exact (sortedHeap_old q.1 (Heap.lt_size q.2)).trans q.2
    · rw [z1]
      exact Nat.le_succ _
end
end Lk
namespace Lk
open PySem L2
/-- sorted(x), x a list or a tuple of pairs of ints (k says which) -/
def rSort2 (K : PySem.W.Frag) : List V → Hp → VK → Prop := fun vs H Q => ∃ (a : Addr) (xs : List V) (k : V → Int × Int), vs = [V.ref a] ∧ (H a = some (.lst xs) ∨ H a = some (.tup xs)) ∧ (∀ x ∈ xs, ∃ t, x = V.ref t ∧ H t = some (.tup [.int (k x).1, .int (k x).2])) ∧
  ∀ ys p, SrtO.Srtd (ltP k) ys → SrtO.Stb (ltP k) ys xs → H p = none → Q (.ref p) (upd H p (.lst ys))
theorem cr_sort2 {X : Cx} : CallR X (.builtin "sorted") (rSort2 X.K) := by
  intro pins s σ H vs us Q I r h
  obtain ⟨a, xs, k, rfl, hs, hx, q⟩ := h
  obtain ⟨u, rfl, ru⟩ := Vals.one r
  obtain rfl : u = Value.ref a := ru
  obtain ⟨its, o, n, T, rv, hT, ho, hc, hd, hz⟩ : ∃ (its : List Value) (o : Obj) (n : Nat) (T : String), Vals xs its ∧ (T = "list" ∨ T = "tuple") ∧ s.heap.get? a = some o ∧ o.cls = .type T ∧ o.data = .seq its.toArray n ∧ its.length ≤ sizeLine := by
    rcases hs with hs | hs
    · obtain ⟨its, rv, hl, hz⟩ := I.list (SqL.of hs)
      obtain ⟨o, ho, hc, n, hd⟩ := hl.isList
      exact ⟨its, o, n, "list", rv, .inl rfl, ho, hc, hd, by rw [← rv.length]; exact hz⟩
    · obtain ⟨its, rv, ht, hz⟩ := I.tuple (SqT.of hs)
      obtain ⟨o, ho, hc, n, hd⟩ := ht
      exact ⟨its, o, n, "tuple", rv, .inr rfl, ho, hc, hd, by rw [← rv.length]; exact hz⟩
  have one : ∀ x ∈ xs, ∃ t, x = V.ref t := fun x m => by
    obtain ⟨t, e, _⟩ := hx x m
    exact ⟨t, e⟩
  obtain ⟨f1, f2⟩ := refs_back rv one
  refine sorted_seq (k := fun u => k (backV u)) hT ho hc hd hz (fun v hv => ?_) fun h' d out o1 o2 kp fr ⟨n2, hn⟩ => ?_
  · obtain ⟨t, rfl⟩ := f2 v hv
    obtain ⟨t', e, ht⟩ := hx (V.ref t) (by rw [f1]; exact List.mem_map.mpr ⟨_, hv, rfl⟩)
    cases e
    obtain ⟨_, its2, r2, o2, ho2, hc2, m2, hd2⟩ := I.hok _ _ ht
    obtain ⟨u1, u2, rfl, ri, rj⟩ := Vals.two r2
    obtain ⟨t1, rfl⟩ := ri
    obtain ⟨t2, rfl⟩ := rj
    exact ⟨t, o2, t1, t2, m2, rfl, ho2, hc2, hd2⟩
  · have g3 : ∀ u ∈ out, ∃ a, u = Value.ref a := fun u hu => f2 u (o2.perm.mem_iff.mp hu)
    have stb : SrtO.Stb (ltP k) (out.map backV) xs := by
      rw [f1]
      exact SrtO.Stb.map (ltP_swo k) backV o2
    refine ⟨.ref d, upd H d (.lst (out.map backV)), I.laid (t' := s.toks) kp fr ⟨?_, out, n2, vals_back g3, hn⟩, rfl, q _ d (SrtO.srtd_map o1) stb (I.hok.fresh fr)⟩
    rw [List.length_map, o2.perm.length_eq]
    exact hz
end Lk

set_option Elab.async false
set_option linter.all false
set_option maxRecDepth 100000
set_option maxHeartbeats 4000000
namespace Lk
open PySem L2
abbrev s_is_slip : Stmt := top 16
abbrev N_is_slip : List Str := ["machine", "value"]
abbrev P_is_slip : List Str := ["machine", "value"]
theorem sc_is_slip : FnScope N_is_slip P_is_slip (defScope s_is_slip) := ⟨rfl, rfl, rfl, by decide +kernel, rfl, by decide +kernel, by decide +kernel⟩
abbrev s_checked_slip : Stmt := top 17
abbrev N_checked_slip : List Str := ["machine", "value"]
abbrev P_checked_slip : List Str := ["machine", "value"]
theorem sc_checked_slip : FnScope N_checked_slip P_checked_slip (defScope s_checked_slip) := ⟨rfl, rfl, rfl, by decide +kernel, rfl, by decide +kernel, by decide +kernel⟩
/-- a slip: a time and a command -/
def isP (A : Int) : PyData → Bool
  | .tuple [x, y] => isN x && isB A y
  | _ => false
theorem isP_long {A : Int} {ds : List PyData} (h : ds.length ≠ 2) : isP A (.tuple ds) = false := by
  match ds, h with
  | [], _ => rfl
  | [_], _ => rfl
  | [_, _], h => exact absurd rfl h
  | _ :: _ :: _ :: _, _ => rfl
def spSlip (CM : Addr) : Sp := fun vs H Q _ => ∃ (m : Addr) (x : V) (d : PyData) (A : Int) (us : List (Addr × List Int)), vs = [.ref m, x] ∧ MachAt CM H m A us ∧ Dv H x d ∧ ∀ H', Same H H' → Q (.bl (isP A d)) H'
def spCSlip (CM CI : Addr) : Sp := fun vs H Q E => ∃ (m : Addr) (x : V) (d : PyData) (A : Int) (us : List (Addr × List Int)), vs = [.ref m, x] ∧ MachAt CM H m A us ∧ Dv H x d ∧
  (isP A d = false → ∀ H' q, Same H H' → H' q = none → E (.ref CI) (some q) (upd H' q (.xd [(("at" : Str), .int 0)]))) ∧ (isP A d = true → ∀ H', Same H H' → Q x H')
section
variable {P : Program} {w : World} {K : PySem.W.Frag} {mg : Str → Option Value} {base : Heap} {CM CI fCI : Addr}
theorem ok_slip {f fn fc : Addr} {fd fdn fdc : FuncData} (A0 : Df K mg "is_slip" s_is_slip f fd P_is_slip) (d_is_number : Df K mg "is_number" s_is_number fn fdn P_is_number) (d_is_command : Df K mg "is_command" s_is_command fc fdc P_is_command)
    (G_is_number : FnOk P w K mg base CX0 2 fn fdn P_is_number (spT1 isN)) (G_is_command : FnOk P w K mg base CX0 4 fc fdc P_is_command (spCommand CM)) (T : Txt mg) : FnOk P w K mg base CX0 5 f fd P_is_slip (spSlip CM) := by
  refine A0.F.ok sc_is_slip (fun vs H Q E h => ?_) (fun cdv Ar outer s H vs Q E hr h => ?_)
  · obtain ⟨m, x, d, A, us, rfl, _⟩ := h
    rfl
  · obtain ⟨m, x, d, A, us, rfl, M, D, k⟩ := h
    refine ⟨_, (pss_cons (ps_if (PW.pt (pw_or (pt_not (pt_val (pe_callB call_isi (by rfl) T.isinstance PyProof.Rows.boot_isinstance (pa_cons (pv 1) (pa_cons (pe_bltn (v := .ty "tuple") (by rfl) T.tuple (by decide +kernel) rfl) pa_nil))))) (pw_or1 (pt_cmpR op_ne (pe_callB call_len_seq (by rfl) T.len PySem.boot_len (pa_cons (pv 1) pa_nil)) pe_int (nomark _))))) (pss_one (ps_ret pe_bl)) pss_nil)
    (pss_one (ps_ret (pe_and (pe_call G_is_number (hr.mono (by decide)) rfl d_is_number.g d_is_number.F.kp d_is_number.b .nil pass0 (pa_cons (pe_ix ix_tup (pv 1) pe_int (fun _ _ => rfl)) pa_nil)) (pe_one (pe_call G_is_command (hr.mono (by decide)) rfl d_is_command.g d_is_command.F.kp d_is_command.b .nil pass0 (pa_cons (pv 0) (pa_cons (pe_ix ix_tup (pv 1) pe_int (fun _ _ => rfl)) pa_nil)))))))), ?_⟩
    have fin : isP A d = false → Q (.bl false) H := fun h2 => by
      rw [← h2]
      exact k _ (Same.refl _)
    cases id D with
    | non => exact ⟨_, rfl, _, _, _, _, false, rfl, .ty _, D.ty, kit_ty (a := "NoneType") (by decide +kernel), false, rfl, iteT (iteT (fin rfl))⟩
    | bl b => exact ⟨_, rfl, _, _, _, _, false, rfl, .ty _, D.ty, kit_ty (a := "bool") (by decide +kernel), false, rfl, iteT (iteT (fin rfl))⟩
    | int i => exact ⟨_, rfl, _, _, _, _, false, rfl, .ty _, D.ty, kit_ty (a := "int") (by decide +kernel), false, rfl, iteT (iteT (fin rfl))⟩
    | str z => exact ⟨_, rfl, _, _, _, _, false, rfl, .ty _, D.ty, kit_ty (a := "str") (by decide +kernel), false, rfl, iteT (iteT (fin rfl))⟩
    | lst h1 h2 => exact ⟨_, rfl, _, _, _, _, false, rfl, .ty _, D.ty, kit_ty (a := "list") (by decide +kernel), false, rfl, iteT (iteT (fin rfl))⟩
    | dct h1 => exact ⟨_, rfl, _, _, _, _, false, rfl, .ty _, D.ty, kit_ty (a := "dict") (by decide +kernel), false, rfl, iteT (iteT (fin rfl))⟩
    | @tup a xs ds ha hx =>
      refine ⟨_, rfl, _, _, _, _, true, rfl, .ty _, D.ty, kit_ty (a := "tuple") (by decide +kernel), true, rfl, iteF ?_⟩
      refine ⟨_, rfl, a, _, rfl, .inr (SqT.of ha), rfl, _, rfl, ?_⟩
      by_cases h2 : ds.length = 2
      · obtain ⟨d0, d1, rfl⟩ : ∃ d0 d1, ds = [d0, d1] := by
          match ds, h2 with
          | [d0, d1], _ => exact ⟨d0, d1, rfl⟩
        cases hx with
        | @cons x0 _ _ _ D0 hx =>
          cases hx with
          | @cons x1 _ _ _ D1 hx =>
            cases hx
            refine iteF ?_
            refine ⟨_, rfl, a, _, 0, x0, rfl, rfl, SqT.of ha, rfl, x0, d0, rfl, D0, fun H1 S1 => ?_⟩
            refine ⟨isN d0, rfl, ?_⟩
            cases hn : isN d0 with
            | false =>
              refine iteF ?_
              have e : isP A (.tuple [d0, d1]) = false := by
                show (isN d0 && isB A d1) = false
                rw [hn] <;> rfl
              rw [← e]
              exact k _ S1
            | true =>
              refine iteT ⟨_, rfl, _, rfl, a, _, 1, x1, rfl, rfl, SqT.of (S1 _ _ ha), rfl, m, x1, d1, A, us, rfl, M.same S1, D1.same S1, fun H2 S2 => ?_⟩
              have e : isP A (.tuple [d0, d1]) = isB A d1 := by
                show (isN d0 && isB A d1) = _
                rw [hn, Bool.true_and]
              rw [← e]
              exact k _ (S1.trans S2)
      · have hl : xs.length = ds.length := hx.len
        have e : (!decide (V.int (xs.length : Int) = V.int 2)) = true := by
          rw [decide_eq_false (fun e => h2 (by injection e with e; omega))] <;> rfl
        rw [e]
        refine iteT (show Q (.bl false) H from ?_)
        rw [← isP_long (A := A) h2]
        exact k _ (Same.refl _)
theorem ok_cslip {f fs : Addr} {fd fds : FuncData} (A0 : Df K mg "checked_slip" s_checked_slip f fd P_checked_slip) (d_is_slip : Df K mg "is_slip" s_is_slip fs fds P_is_slip) (G_is_slip : FnOk P w K mg base CX0 5 fs fds P_is_slip (spSlip CM)) (TI : PySem.ErrX.ErrTxt K mg "InvalidSlip" "InvalidSlip.__init__" CI fCI) :
    FnOk P w K mg base (L2.CX P w) 6 f fd P_checked_slip (spCSlip CM CI) := by
  refine A0.F.okX sc_checked_slip (fun vs H Q E h => ?_) (fun cdv Ar outer s H vs Q E hr h => ?_)
  · obtain ⟨m, x, d, A, us, rfl, _⟩ := h
    rfl
  · obtain ⟨m, x, d, A, us, rfl, M, D, kB, kG⟩ := h
    refine ⟨_, (pss_cons (ps_if (pt_not (pt_val (pe_call G_is_slip (hr.mono (by decide)) rfl d_is_slip.g d_is_slip.F.kp d_is_slip.b .nil pass0 (pa_cons (pv 0) (pa_cons (pv 1) pa_nil))))) (pss_one (ps_raiseLow rfl TI hr (takes_of rfl rfl rfl rfl) (pa_cons pe_int pa_nil) (by rfl))) pss_nil)
    (pss_one (ps_ret (pv 1)))), ?_⟩
    refine ⟨_, rfl, _, rfl, m, x, d, A, us, rfl, M, D, fun H1 S1 => ⟨isP A d, rfl, ?_⟩⟩
    cases hb : isP A d with
    | false => exact iteT ⟨_, rfl, fun q hq => kB hb H1 q S1 hq⟩
    | true => exact iteF ⟨_, rfl, kG hb H1 S1⟩
end
end Lk

set_option Elab.async false
set_option linter.all false
set_option maxRecDepth 100000
set_option maxHeartbeats 8000000
namespace Lk
open PySem L2
abbrev s_checked_heap : Stmt := top 18
abbrev N_checked_heap : List Str := ["machine", "value", "times", "index", "entry"]
abbrev P_checked_heap : List Str := ["machine", "value"]
theorem sc_checked_heap : FnScope N_checked_heap P_checked_heap (defScope s_checked_heap) := ⟨rfl, rfl, rfl, by decide +kernel, rfl, by decide +kernel, by decide +kernel⟩
def timeD : PyData → Int
  | .tuple (x :: _) => intD x
  | _ => 0
/-- the index of the first entry that is no slip or comes again -/
def badP (A : Int) : List PyData → (Int → Bool) → Nat → Option Nat
  | [], _, _ => none
  | e :: r, S, i => if isP A e = true ∧ S (timeD e) = false then badP A r (fun j => S j || decide (j = timeD e)) (i + 1) else some i
theorem badP_cons {A : Int} {e : PyData} {r : List PyData} {S : Int → Bool} {i : Nat} : badP A (e :: r) S i = if isP A e = true ∧ S (timeD e) = false then badP A r (fun j => S j || decide (j = timeD e)) (i + 1) else some i := rfl
def heapRes (A : Int) (d : PyData) : Option Nat := if isS d = false then some 0 else badP A (itemsD d) (fun _ => false) 0
def pairD : PyData → Int × Int
  | .tuple (x :: y :: _) => (intD x, intD y)
  | _ => (0, 0)
theorem slip_read {H : Hp} {y : V} {e : PyData} {A : Int} (h : Dv H y e) (hE : isP A e = true) : ∃ (b : Addr) (t c : Int), y = .ref b ∧ H b = some (.tup [.int t, .int c]) ∧ e = .tuple [.int t, .int c] ∧ (0 ≤ t ∧ 0 ≤ c ∧ c < A) := by
  cases h with
  | non => cases hE
  | bl _ => cases hE
  | int _ => cases hE
  | str _ => cases hE
  | lst _ _ => cases hE
  | dct _ => cases hE
  | @tup b xs ds hb hx =>
    match ds, xs, hx, hE with
    | [d0, d1], _, .cons h0 (.cons h1 .nil), hE =>
      have hE' : (isN d0 && isB A d1) = true := hE
      rw [Bool.and_eq_true] at hE'
      cases d0 with
      | int t =>
        cases h0
        cases d1 with
        | int c =>
          cases h1
          have q : (decide (0 ≤ c) && decide (c < A)) = true := hE'.2
          rw [Bool.and_eq_true] at q
          exact ⟨b, t, c, rfl, hb, rfl, of_decide_eq_true hE'.1, of_decide_eq_true q.1, of_decide_eq_true q.2⟩
        | none => cases hE'.2
        | bool _ => cases hE'.2
        | str _ => cases hE'.2
        | list _ => cases hE'.2
        | tuple _ => cases hE'.2
        | dict _ => cases hE'.2
      | none => cases hE'.1
      | bool _ => cases hE'.1
      | str _ => cases hE'.1
      | list _ => cases hE'.1
      | tuple _ => cases hE'.1
      | dict _ => cases hE'.1
    | [], _, _, hE => cases hE
    | [_], _, _, hE => cases hE
    | _ :: _ :: _ :: _, _, _, hE => cases hE
/-- what a tuple of two ints holds -/
def keyV (H : Hp) : V → Int × Int
  | .ref t => match H t with
    | some (.tup [.int i, .int j]) => (i, j)
    | _ => (0, 0)
  | _ => (0, 0)
theorem keyV_of {H : Hp} {t : Addr} {i j : Int} (h : H t = some (.tup [.int i, .int j])) : keyV H (.ref t) = (i, j) := by
  show (match H t with
    | some (.tup [.int i, .int j]) => (i, j)
    | _ => (0, 0)) = _
  rw [h]
theorem badP_none {A : Int} : ∀ {ds : List PyData} {S : Int → Bool} {i : Nat}, badP A ds S i = none → (∀ e ∈ ds, isP A e = true ∧ S (timeD e) = false) ∧ (ds.map timeD).Nodup
  | [], _, _, _ => ⟨(fun _ h => by cases h), List.nodup_nil⟩
  | e :: r, S, i, h => by
    rw [badP_cons] at h
    by_cases hc : isP A e = true ∧ S (timeD e) = false
    · rw [if_pos hc] at h
      obtain ⟨h1, h2⟩ := badP_none h
      refine ⟨fun x hx => ?_, ?_⟩
      · rcases List.mem_cons.mp hx with z | z
        · rw [z]
          exact hc
        · obtain ⟨q1, q2⟩ := h1 x z
          rw [Bool.or_eq_false_iff] at q2
          exact ⟨q1, q2.1⟩
      · rw [List.map_cons, List.nodup_cons]
        refine ⟨fun hm => ?_, h2⟩
        obtain ⟨x, hx, ex⟩ := List.mem_map.mp hm
        have q := (h1 x hx).2
        rw [Bool.or_eq_false_iff] at q
        exact (of_decide_eq_false q.2) ex
    · rw [if_neg hc] at h
      cases h
theorem heap_read {H : Hp} {A : Int} : ∀ {xs : List V} {ds : List PyData}, DvAll H xs ds → ((∀ e ∈ ds, isP A e = true ∧ (fun _ : Int => false) (timeD e) = false) ∧ (ds.map timeD).Nodup) →
    ∃ ps : List (Addr × Int × Int), xs = ps.map (fun p => V.ref p.1) ∧ ps.map (·.2) = ds.map pairD ∧ (∀ p ∈ ps, H p.1 = some (.tup [.int p.2.1, .int p.2.2])) ∧ ((ps.map (·.2)).map (·.1)).Nodup
  | _, _, .nil, _ => ⟨[], rfl, rfl, (fun _ h => by cases h), List.nodup_nil⟩
  | _, _, .cons (d := d) (ds := ds) h t, ⟨hq, hn⟩ => by
    rw [List.map_cons, List.nodup_cons] at hn
    obtain ⟨ps, rfl, e2, h2, h3⟩ := heap_read t ⟨fun e he => hq e (List.mem_cons_of_mem _ he), hn.2⟩
    obtain ⟨b, tm, c, rfl, hb, rfl, _⟩ := slip_read h (hq _ List.mem_cons_self).1
    refine ⟨(b, tm, c) :: ps, rfl, by rw [List.map_cons, List.map_cons, e2] <;> rfl, fun p hp => ?_, ?_⟩
    · rcases List.mem_cons.mp hp with z | z
      · rw [z]
        exact hb
      · exact h2 p z
    · have et : (ps.map (·.2)).map (·.1) = ds.map timeD := by
        rw [e2, List.map_map]
        refine List.map_congr_left fun e he => ?_
        have := (hq e (List.mem_cons_of_mem _ he)).1
        match e, this with
        | .tuple [x, y], _ => rfl
      rw [List.map_cons, List.map_cons, List.nodup_cons, et]
      exact ⟨hn.1, hn.2⟩
theorem heap_sorted {H : Hp} {ps : List (Addr × Int × Int)} {ys : List V} (hr : ∀ p ∈ ps, H p.1 = some (.tup [.int p.2.1, .int p.2.2])) (nd : ((ps.map (·.2)).map (·.1)).Nodup) (so : SrtO.Srtd (ltP (keyV H)) ys) (pm : ys.Perm (ps.map fun p => V.ref p.1)) :
    ∃ qs : List (Addr × Int × Int), ys = qs.map (fun p => V.ref p.1) ∧ (∀ p ∈ qs, H p.1 = some (.tup [.int p.2.1, .int p.2.2])) ∧ (qs.map (·.2)).Perm (ps.map (·.2)) ∧ (qs.map (·.2)).Pairwise fun x y => x.1 < y.1 := by
  obtain ⟨qs, rfl, hq⟩ : ∃ qs : List (Addr × Int × Int), ys = qs.map (fun p => V.ref p.1) ∧ ∀ p ∈ qs, H p.1 = some (.tup [.int p.2.1, .int p.2.2]) := by
    have all : ∀ y ∈ ys, ∃ p : Addr × Int × Int, y = V.ref p.1 ∧ H p.1 = some (.tup [.int p.2.1, .int p.2.2]) := fun y hy => by
      obtain ⟨p, hp, e⟩ := List.mem_map.mp (pm.mem_iff.mp hy)
      exact ⟨p, e.symm, hr p hp⟩
    clear pm so
    induction ys with
    | nil => exact ⟨[], rfl, fun _ h => by cases h⟩
    | cons y ys ih =>
      obtain ⟨p, rfl, hp⟩ := all y List.mem_cons_self
      obtain ⟨qs, rfl, hq⟩ := ih fun z hz => all z (List.mem_cons_of_mem _ hz)
      exact ⟨p :: qs, rfl, fun z hz => (List.mem_cons.mp hz).elim (fun e => by rw [e]; exact hp) (hq z)⟩
  have km : ∀ {l : List (Addr × Int × Int)}, (∀ p ∈ l, H p.1 = some (.tup [.int p.2.1, .int p.2.2])) → (l.map fun p => V.ref p.1).map (keyV H) = l.map (·.2) := fun {l} hl => by
    rw [List.map_map]
    exact List.map_congr_left fun p hp => keyV_of (hl p hp)
  have pm2 : (qs.map (·.2)).Perm (ps.map (·.2)) := by
    have := pm.map (keyV H)
    rw [km hq, km hr] at this
    exact this
  refine ⟨qs, rfl, hq, pm2, ?_⟩
  have nd2 : ((qs.map (·.2)).map (·.1)).Nodup := (pm2.map (·.1)).nodup_iff.mpr nd
  have so2 : (qs.map (·.2)).Pairwise fun x y => SrtO.lexB y x = false := by
    have h1 : (qs.map fun p => V.ref p.1).Pairwise fun x y => SrtO.lexB (keyV H y) (keyV H x) = false := so
    have h2 := (List.pairwise_map (f := keyV H) (R := fun x y => SrtO.lexB y x = false)).mpr h1
    rw [km hq] at h2
    exact h2
  have nd3 : (qs.map (·.2)).Pairwise fun x y => x.1 ≠ y.1 := List.pairwise_map.mp nd2
  refine (so2.and nd3).imp fun {x y} h => ?_
  have := SrtO.lexB_no.mp h.1
  have := h.2
  omega
/-- a heap as it is told: its slips' addresses, times, commands, by time -/
structure HeapAt (H : Hp) (q : Addr) (ps : List (Addr × Int × Int)) : Prop where
  top : H q = some (.tup (ps.map fun p => V.ref p.1))
  row : ∀ p ∈ ps, H p.1 = some (.tup [.int p.2.1, .int p.2.2])
  srt : (ps.map (·.2)).Pairwise fun x y => x.1 < y.1
def spHeap (CM CI : Addr) : Sp := fun vs H Q E => ∃ (m : Addr) (x : V) (d : PyData) (A : Int) (us : List (Addr × List Int)), vs = [.ref m, x] ∧ MachAt CM H m A us ∧ Dv H x d ∧ (itemsD d).length ≤ 1000 ∧
  match heapRes A d with
  | some k => ∀ H' q, Same H H' → H' q = none → E (.ref CI) (some q) (upd H' q (.xd [(("at" : Str), .int (k : Int))]))
  | none => ∀ H' q ps, Same H H' → HeapAt H' q ps → (ps.map (·.2)).Perm ((itemsD d).map pairD) → Q (.ref q) H'
section
variable {P : Program} {w : World} {K : PySem.W.Frag} {mg : Str → Option Value} {base : Heap} {CM CI fCI : Addr}
theorem ok_heap {f fs fl : Addr} {fd fds fdl : FuncData} (A0 : Df K mg "checked_heap" s_checked_heap f fd P_checked_heap) (d_is_sequence : Df K mg "is_sequence" s_is_sequence fs fds P_is_sequence) (d_is_slip : Df K mg "is_slip" s_is_slip fl fdl P_is_slip) (G_is_slip : FnOk P w K mg base CX0 5 fl fdl P_is_slip (spSlip CM))
    (T : Txt mg) (zset : mg "set" = none) (zsort : mg "sorted" = none) (TI : PySem.ErrX.ErrTxt K mg "InvalidSlip" "InvalidSlip.__init__" CI fCI) : FnOk P w K mg base (L2.CX P w) 7 f fd P_checked_heap (spHeap CM CI) := by
  have G_is_sequence : FnOk P w K mg base CX0 1 fs fds P_is_sequence (spT1 isS) := ok_sequence d_is_sequence T
  refine A0.F.okX sc_checked_heap (fun vs H Q E h => ?_) (fun cdv Ar outer s H vs Q E hr h => ?_)
  · obtain ⟨m, x, d, A, us, rfl, _⟩ := h
    rfl
  · obtain ⟨m, x, d, A, us, rfl, M, D, hz, kR⟩ := h
    cases id D with
    | @lst a xs ds' ha hx => 
      refine ⟨_, (pss_cons (ps_if (pt_not (pt_val (pe_call G_is_sequence (hr.mono (by decide)) rfl d_is_sequence.g d_is_sequence.F.kp d_is_sequence.b .nil pass0 (pa_cons (pv 1) pa_nil)))) (pss_one (ps_raiseLow rfl TI hr (takes_of rfl rfl rfl rfl) (pa_cons pe_int pa_nil) (by rfl))) pss_nil)
    (pss_cons (ps_set (i := 2) sc_checked_heap.nd rfl (Or.inl rfl) (pe_callTy0 cr_set0 (by rfl) zset (by decide +kernel)))
    (pss_cons (ps_for (passes_of rfl) rfl (pi_enum (by rfl) T.enumerate (pa_cons (pv 1) pa_nil)) (pg_tup rfl (pgs_cons (pg_name (i := 3) sc_checked_heap.nd rfl (Or.inl rfl)) (pgs_cons (pg_name (i := 4) sc_checked_heap.nd rfl (Or.inl rfl)) pgs_nil)))
      (pss_cons (ps_if (PW.pt (pw_or (pt_not (pt_val (pe_call G_is_slip (hr.mono (by decide)) rfl d_is_slip.g d_is_slip.F.kp d_is_slip.b .nil pass0 (pa_cons (pv 0) (pa_cons (pv 4) pa_nil))))) (pw_or1 (pt_cmpR or_sin (pe_ix ix_tup (pv 4) pe_int (fun _ _ => rfl)) (pv 2) (by with_unfolding_all rfl))))) (pss_one (ps_raiseLow rfl TI hr (takes_of rfl rfl rfl rfl) (pa_cons (pv 3) pa_nil) (by rfl))) pss_nil)
      (pss_one (ps_expr (pe_sadd (pv 2) (pa_cons (pe_ix ix_tup (pv 4) pe_int (fun _ _ => rfl)) pa_nil))))))
    (pss_one (ps_ret (pe_tupleOf (by rfl) T.tuple (pe_callB cr_sort2 (by rfl) zsort (by decide +kernel) (pa_cons (pv 1) pa_nil)))))))), ?_⟩
      have hlen : xs.length = ds'.length := hx.len
      refine ⟨_, rfl, .ref a, _, rfl, D, fun H1 S1 => ⟨true, rfl, iteF ?_⟩⟩
      have eR : heapRes A (.list ds') = badP A ds' (fun _ => false) 0 := rfl
      rw [eR] at kR
      refine ⟨rfl, fun ts hts => ?_⟩
      have hts0 : H ts = none := (KP.same (S := fun _ => False) S1).free id hts
      refine ⟨_, rfl, a, xs, rfl, SqL.of (nk (S1 _ _ ha) hts), for_enumL (K := K) (a := a) (xs := xs) (fun i σ H3 => ∃ (v3 v4 : Option V) (S : Int → Bool) (n : Nat), σ = [some (.ref m), some (.ref a), some (.ref ts), v3, v4] ∧ Same H H3 ∧ H3 ts = some (SetO w ts S n) ∧ n ≤ i ∧ badP A ds' (fun _ => false) 0 = badP A (ds'.drop i) S i)
        ⟨none, none, _, 0, rfl, S1.trans (Same.new hts), upd_same, Nat.le_refl _, rfl⟩ (fun i σ H3 ⟨_, _, _, _, _, S, _⟩ => SqL.of (S _ _ ha)) ?_ ?_⟩
      · rintro i y σ H3 t hi ⟨v3, v4, S, n, rfl, S3, hS, hn, eb⟩ ht
        obtain ⟨e, he, De⟩ := hx.get hi
        have hil : i < ds'.length := cases_list he
        have hzz : ds'.length ≤ 1000 := hz
        have S4 : Same H (upd H3 t (HO.tup [V.int ((i : Nat) : Int), y])) := S3.trans (Same.new ht)
        refine ⟨t, _, rfl, SqT.of upd_same, rfl, _, _, rfl, _, _, rfl, rfl, ?_⟩
        refine ⟨_, rfl, _, rfl, m, y, e, A, us, rfl, M.same S4, De.same S4, fun H5 S5 => ⟨isP A e, rfl, ?_⟩⟩
        rw [drop_get he, badP_cons] at eb
        by_cases hE : isP A e = true
        · obtain ⟨b, tm, c, rfl, hb, rfl, hc⟩ := slip_read De hE
          have hS5 : H5 ts = some (SetO w ts S n) := S5 _ _ (nk hS ht)
          rw [hE]
          refine iteF ⟨_, rfl, b, _, 0, _, rfl, rfl, SqT.of ((S4.trans S5) _ _ hb), rfl, _, rfl, tm, ts, S, n, rfl, rfl, hS5, S tm, rfl, ?_⟩
          cases hs : S tm with
          | true =>
            rw [if_neg (fun q => by have := q.2; rw [show timeD (.tuple [.int tm, .int c]) = tm from rfl, hs] at this; cases this)] at eb
            refine iteT ⟨_, rfl, _, rfl, fun q hq => ?_⟩
            rw [eb] at kR
            exact kR H5 q (S4.trans S5) hq
          | false =>
            rw [if_pos ⟨hE, hs⟩] at eb
            refine iteF ⟨_, rfl, ⟨ts, S, n, rfl, hS5⟩, _, rfl, b, _, 0, _, rfl, rfl, SqT.of ((S4.trans S5) _ _ hb), rfl, ts, tm, S, n, rfl, rfl, hS5, Nat.lt_of_le_of_lt (show n + 1 ≤ 1001 by omega) (by decide), ?_⟩
            refine ⟨_, _, _, _, rfl, ((KP.same (S := fun _ => False) (S4.trans S5)).mut hts0).toSame, upd_same, ?_, eb⟩
            rw [if_neg (by rw [hs]; decide)]
            omega
        · rw [if_neg (fun q => hE q.1)] at eb
          rw [show isP A e = false by simpa using hE]
          refine iteT (iteT ⟨_, rfl, _, rfl, fun q hq => ?_⟩)
          rw [eb] at kR
          exact kR H5 q (S4.trans S5) hq
      · rintro σ H3 ⟨v3, v4, S, n, rfl, S3, hS, hn, eb⟩
        rw [hlen, List.drop_length] at eb
        have eb' : badP A ds' (fun _ => false) 0 = none := eb
        rw [eb'] at kR
        obtain ⟨ps, rfl, eps, hps, hnd⟩ := heap_read hx (badP_none eb')
        have hrow3 : ∀ p ∈ ps, H3 p.1 = some (.tup [.int p.2.1, .int p.2.2]) := fun p hp => S3 _ _ (hps p hp)
        refine ⟨_, rfl, a, _, keyV H3, rfl, .inl (S3 _ _ ha), fun x hx' => ?_, fun ys q hsrt hstb hq => ?_⟩
        · obtain ⟨p, hp, rfl⟩ := List.mem_map.mp hx'
          refine ⟨p.1, rfl, ?_⟩
          rw [keyV_of (hrow3 p hp)]
          exact hrow3 p hp
        · obtain ⟨qs, rfl, hqs, hpm, hso⟩ := heap_sorted hrow3 hnd hsrt hstb.perm
          refine .inl ⟨q, _, rfl, SqL.of upd_same, fun t ht => ?_⟩
          have Sf : Same H3 _ := (Same.new (o := HO.lst (qs.map fun p => V.ref p.1)) hq).trans (Same.new (o := HO.tup (qs.map fun p => V.ref p.1)) ht)
          exact kR _ t qs (S3.trans Sf) ⟨upd_same, fun p hp => Sf _ _ (hqs p hp), hso⟩ (hpm.trans (by rw [eps] <;> exact List.Perm.refl _))
    | @tup a xs ds' ha hx => 
      refine ⟨_, (pss_cons (ps_if (pt_not (pt_val (pe_call G_is_sequence (hr.mono (by decide)) rfl d_is_sequence.g d_is_sequence.F.kp d_is_sequence.b .nil pass0 (pa_cons (pv 1) pa_nil)))) (pss_one (ps_raiseLow rfl TI hr (takes_of rfl rfl rfl rfl) (pa_cons pe_int pa_nil) (by rfl))) pss_nil)
    (pss_cons (ps_set (i := 2) sc_checked_heap.nd rfl (Or.inl rfl) (pe_callTy0 cr_set0 (by rfl) zset (by decide +kernel)))
    (pss_cons (ps_for (passes_of rfl) rfl (pi_enumT (by rfl) T.enumerate (pa_cons (pv 1) pa_nil)) (pg_tup rfl (pgs_cons (pg_name (i := 3) sc_checked_heap.nd rfl (Or.inl rfl)) (pgs_cons (pg_name (i := 4) sc_checked_heap.nd rfl (Or.inl rfl)) pgs_nil)))
      (pss_cons (ps_if (PW.pt (pw_or (pt_not (pt_val (pe_call G_is_slip (hr.mono (by decide)) rfl d_is_slip.g d_is_slip.F.kp d_is_slip.b .nil pass0 (pa_cons (pv 0) (pa_cons (pv 4) pa_nil))))) (pw_or1 (pt_cmpR or_sin (pe_ix ix_tup (pv 4) pe_int (fun _ _ => rfl)) (pv 2) (by with_unfolding_all rfl))))) (pss_one (ps_raiseLow rfl TI hr (takes_of rfl rfl rfl rfl) (pa_cons (pv 3) pa_nil) (by rfl))) pss_nil)
      (pss_one (ps_expr (pe_sadd (pv 2) (pa_cons (pe_ix ix_tup (pv 4) pe_int (fun _ _ => rfl)) pa_nil))))))
    (pss_one (ps_ret (pe_tupleOf (by rfl) T.tuple (pe_callB cr_sort2 (by rfl) zsort (by decide +kernel) (pa_cons (pv 1) pa_nil)))))))), ?_⟩
      have hlen : xs.length = ds'.length := hx.len
      refine ⟨_, rfl, .ref a, _, rfl, D, fun H1 S1 => ⟨true, rfl, iteF ?_⟩⟩
      have eR : heapRes A (.tuple ds') = badP A ds' (fun _ => false) 0 := rfl
      rw [eR] at kR
      refine ⟨rfl, fun ts hts => ?_⟩
      have hts0 : H ts = none := (KP.same (S := fun _ => False) S1).free id hts
      refine ⟨_, rfl, a, xs, rfl, SqT.of (nk (S1 _ _ ha) hts), for_enumT (K := K) (a := a) (xs := xs) (fun i σ H3 => ∃ (v3 v4 : Option V) (S : Int → Bool) (n : Nat), σ = [some (.ref m), some (.ref a), some (.ref ts), v3, v4] ∧ Same H H3 ∧ H3 ts = some (SetO w ts S n) ∧ n ≤ i ∧ badP A ds' (fun _ => false) 0 = badP A (ds'.drop i) S i)
        ⟨none, none, _, 0, rfl, S1.trans (Same.new hts), upd_same, Nat.le_refl _, rfl⟩ (fun i σ H3 ⟨_, _, _, _, _, S, _⟩ => SqT.of (S _ _ ha)) ?_ ?_⟩
      · rintro i y σ H3 t hi ⟨v3, v4, S, n, rfl, S3, hS, hn, eb⟩ ht
        obtain ⟨e, he, De⟩ := hx.get hi
        have hil : i < ds'.length := cases_list he
        have hzz : ds'.length ≤ 1000 := hz
        have S4 : Same H (upd H3 t (HO.tup [V.int ((i : Nat) : Int), y])) := S3.trans (Same.new ht)
        refine ⟨t, _, rfl, SqT.of upd_same, rfl, _, _, rfl, _, _, rfl, rfl, ?_⟩
        refine ⟨_, rfl, _, rfl, m, y, e, A, us, rfl, M.same S4, De.same S4, fun H5 S5 => ⟨isP A e, rfl, ?_⟩⟩
        rw [drop_get he, badP_cons] at eb
        by_cases hE : isP A e = true
        · obtain ⟨b, tm, c, rfl, hb, rfl, hc⟩ := slip_read De hE
          have hS5 : H5 ts = some (SetO w ts S n) := S5 _ _ (nk hS ht)
          rw [hE]
          refine iteF ⟨_, rfl, b, _, 0, _, rfl, rfl, SqT.of ((S4.trans S5) _ _ hb), rfl, _, rfl, tm, ts, S, n, rfl, rfl, hS5, S tm, rfl, ?_⟩
          cases hs : S tm with
          | true =>
            rw [if_neg (fun q => by have := q.2; rw [show timeD (.tuple [.int tm, .int c]) = tm from rfl, hs] at this; cases this)] at eb
            refine iteT ⟨_, rfl, _, rfl, fun q hq => ?_⟩
            rw [eb] at kR
            exact kR H5 q (S4.trans S5) hq
          | false =>
            rw [if_pos ⟨hE, hs⟩] at eb
            refine iteF ⟨_, rfl, ⟨ts, S, n, rfl, hS5⟩, _, rfl, b, _, 0, _, rfl, rfl, SqT.of ((S4.trans S5) _ _ hb), rfl, ts, tm, S, n, rfl, rfl, hS5, Nat.lt_of_le_of_lt (show n + 1 ≤ 1001 by omega) (by decide), ?_⟩
            refine ⟨_, _, _, _, rfl, ((KP.same (S := fun _ => False) (S4.trans S5)).mut hts0).toSame, upd_same, ?_, eb⟩
            rw [if_neg (by rw [hs]; decide)]
            omega
        · rw [if_neg (fun q => hE q.1)] at eb
          rw [show isP A e = false by simpa using hE]
          refine iteT (iteT ⟨_, rfl, _, rfl, fun q hq => ?_⟩)
          rw [eb] at kR
          exact kR H5 q (S4.trans S5) hq
      · rintro σ H3 ⟨v3, v4, S, n, rfl, S3, hS, hn, eb⟩
        rw [hlen, List.drop_length] at eb
        have eb' : badP A ds' (fun _ => false) 0 = none := eb
        rw [eb'] at kR
        obtain ⟨ps, rfl, eps, hps, hnd⟩ := heap_read hx (badP_none eb')
        have hrow3 : ∀ p ∈ ps, H3 p.1 = some (.tup [.int p.2.1, .int p.2.2]) := fun p hp => S3 _ _ (hps p hp)
        refine ⟨_, rfl, a, _, keyV H3, rfl, .inr (S3 _ _ ha), fun x hx' => ?_, fun ys q hsrt hstb hq => ?_⟩
        · obtain ⟨p, hp, rfl⟩ := List.mem_map.mp hx'
          refine ⟨p.1, rfl, ?_⟩
          rw [keyV_of (hrow3 p hp)]
          exact hrow3 p hp
        · obtain ⟨qs, rfl, hqs, hpm, hso⟩ := heap_sorted hrow3 hnd hsrt hstb.perm
          refine .inl ⟨q, _, rfl, SqL.of upd_same, fun t ht => ?_⟩
          have Sf : Same H3 _ := (Same.new (o := HO.lst (qs.map fun p => V.ref p.1)) hq).trans (Same.new (o := HO.tup (qs.map fun p => V.ref p.1)) ht)
          exact kR _ t qs (S3.trans Sf) ⟨upd_same, fun p hp => Sf _ _ (hqs p hp), hso⟩ (hpm.trans (by rw [eps] <;> exact List.Perm.refl _))
    | non => 
      refine ⟨_, (pss_cons (ps_if (pt_not (pt_val (pe_call G_is_sequence (hr.mono (by decide)) rfl d_is_sequence.g d_is_sequence.F.kp d_is_sequence.b .nil pass0 (pa_cons (pv 1) pa_nil)))) (pss_one (ps_raiseLow rfl TI hr (takes_of rfl rfl rfl rfl) (pa_cons pe_int pa_nil) (by rfl))) pss_nil)
    (pss_cons (ps_set (i := 2) sc_checked_heap.nd rfl (Or.inl rfl) (pe_callTy0 cr_set0 (by rfl) zset (by decide +kernel)))
    (pss_cons (ps_for (passes_of rfl) rfl (pi_enum (by rfl) T.enumerate (pa_cons (pv 1) pa_nil)) (pg_tup rfl (pgs_cons (pg_name (i := 3) sc_checked_heap.nd rfl (Or.inl rfl)) (pgs_cons (pg_name (i := 4) sc_checked_heap.nd rfl (Or.inl rfl)) pgs_nil)))
      (pss_cons (ps_if (PW.pt (pw_or (pt_not (pt_val (pe_call G_is_slip (hr.mono (by decide)) rfl d_is_slip.g d_is_slip.F.kp d_is_slip.b .nil pass0 (pa_cons (pv 0) (pa_cons (pv 4) pa_nil))))) (pw_or1 (pt_cmpR or_sin (pe_ix ix_tup (pv 4) pe_int (fun _ _ => rfl)) (pv 2) (by with_unfolding_all rfl))))) (pss_one (ps_raiseLow rfl TI hr (takes_of rfl rfl rfl rfl) (pa_cons (pv 3) pa_nil) (by rfl))) pss_nil)
      (pss_one (ps_expr (pe_sadd (pv 2) (pa_cons (pe_ix ix_tup (pv 4) pe_int (fun _ _ => rfl)) pa_nil))))))
    (pss_one (ps_ret (pe_tupleOf (by rfl) T.tuple (pe_callB cr_sort2 (by rfl) zsort (by decide +kernel) (pa_cons (pv 1) pa_nil)))))))), ?_⟩
      refine ⟨_, rfl, _, _, rfl, D, fun H1 S1 => ⟨false, rfl, iteT ⟨_, rfl, fun q hq => ?_⟩⟩⟩
      have e : heapRes A .none = some 0 := rfl
      rw [e] at kR
      exact kR H1 q S1 hq
    | bl b => 
      refine ⟨_, (pss_cons (ps_if (pt_not (pt_val (pe_call G_is_sequence (hr.mono (by decide)) rfl d_is_sequence.g d_is_sequence.F.kp d_is_sequence.b .nil pass0 (pa_cons (pv 1) pa_nil)))) (pss_one (ps_raiseLow rfl TI hr (takes_of rfl rfl rfl rfl) (pa_cons pe_int pa_nil) (by rfl))) pss_nil)
    (pss_cons (ps_set (i := 2) sc_checked_heap.nd rfl (Or.inl rfl) (pe_callTy0 cr_set0 (by rfl) zset (by decide +kernel)))
    (pss_cons (ps_for (passes_of rfl) rfl (pi_enum (by rfl) T.enumerate (pa_cons (pv 1) pa_nil)) (pg_tup rfl (pgs_cons (pg_name (i := 3) sc_checked_heap.nd rfl (Or.inl rfl)) (pgs_cons (pg_name (i := 4) sc_checked_heap.nd rfl (Or.inl rfl)) pgs_nil)))
      (pss_cons (ps_if (PW.pt (pw_or (pt_not (pt_val (pe_call G_is_slip (hr.mono (by decide)) rfl d_is_slip.g d_is_slip.F.kp d_is_slip.b .nil pass0 (pa_cons (pv 0) (pa_cons (pv 4) pa_nil))))) (pw_or1 (pt_cmpR or_sin (pe_ix ix_tup (pv 4) pe_int (fun _ _ => rfl)) (pv 2) (by with_unfolding_all rfl))))) (pss_one (ps_raiseLow rfl TI hr (takes_of rfl rfl rfl rfl) (pa_cons (pv 3) pa_nil) (by rfl))) pss_nil)
      (pss_one (ps_expr (pe_sadd (pv 2) (pa_cons (pe_ix ix_tup (pv 4) pe_int (fun _ _ => rfl)) pa_nil))))))
    (pss_one (ps_ret (pe_tupleOf (by rfl) T.tuple (pe_callB cr_sort2 (by rfl) zsort (by decide +kernel) (pa_cons (pv 1) pa_nil)))))))), ?_⟩
      refine ⟨_, rfl, _, _, rfl, D, fun H1 S1 => ⟨false, rfl, iteT ⟨_, rfl, fun q hq => ?_⟩⟩⟩
      have e : heapRes A (.bool b) = some 0 := rfl
      rw [e] at kR
      exact kR H1 q S1 hq
    | int i0 => 
      refine ⟨_, (pss_cons (ps_if (pt_not (pt_val (pe_call G_is_sequence (hr.mono (by decide)) rfl d_is_sequence.g d_is_sequence.F.kp d_is_sequence.b .nil pass0 (pa_cons (pv 1) pa_nil)))) (pss_one (ps_raiseLow rfl TI hr (takes_of rfl rfl rfl rfl) (pa_cons pe_int pa_nil) (by rfl))) pss_nil)
    (pss_cons (ps_set (i := 2) sc_checked_heap.nd rfl (Or.inl rfl) (pe_callTy0 cr_set0 (by rfl) zset (by decide +kernel)))
    (pss_cons (ps_for (passes_of rfl) rfl (pi_enum (by rfl) T.enumerate (pa_cons (pv 1) pa_nil)) (pg_tup rfl (pgs_cons (pg_name (i := 3) sc_checked_heap.nd rfl (Or.inl rfl)) (pgs_cons (pg_name (i := 4) sc_checked_heap.nd rfl (Or.inl rfl)) pgs_nil)))
      (pss_cons (ps_if (PW.pt (pw_or (pt_not (pt_val (pe_call G_is_slip (hr.mono (by decide)) rfl d_is_slip.g d_is_slip.F.kp d_is_slip.b .nil pass0 (pa_cons (pv 0) (pa_cons (pv 4) pa_nil))))) (pw_or1 (pt_cmpR or_sin (pe_ix ix_tup (pv 4) pe_int (fun _ _ => rfl)) (pv 2) (by with_unfolding_all rfl))))) (pss_one (ps_raiseLow rfl TI hr (takes_of rfl rfl rfl rfl) (pa_cons (pv 3) pa_nil) (by rfl))) pss_nil)
      (pss_one (ps_expr (pe_sadd (pv 2) (pa_cons (pe_ix ix_tup (pv 4) pe_int (fun _ _ => rfl)) pa_nil))))))
    (pss_one (ps_ret (pe_tupleOf (by rfl) T.tuple (pe_callB cr_sort2 (by rfl) zsort (by decide +kernel) (pa_cons (pv 1) pa_nil)))))))), ?_⟩
      refine ⟨_, rfl, _, _, rfl, D, fun H1 S1 => ⟨false, rfl, iteT ⟨_, rfl, fun q hq => ?_⟩⟩⟩
      have e : heapRes A (.int i0) = some 0 := rfl
      rw [e] at kR
      exact kR H1 q S1 hq
    | str x0 => 
      refine ⟨_, (pss_cons (ps_if (pt_not (pt_val (pe_call G_is_sequence (hr.mono (by decide)) rfl d_is_sequence.g d_is_sequence.F.kp d_is_sequence.b .nil pass0 (pa_cons (pv 1) pa_nil)))) (pss_one (ps_raiseLow rfl TI hr (takes_of rfl rfl rfl rfl) (pa_cons pe_int pa_nil) (by rfl))) pss_nil)
    (pss_cons (ps_set (i := 2) sc_checked_heap.nd rfl (Or.inl rfl) (pe_callTy0 cr_set0 (by rfl) zset (by decide +kernel)))
    (pss_cons (ps_for (passes_of rfl) rfl (pi_enum (by rfl) T.enumerate (pa_cons (pv 1) pa_nil)) (pg_tup rfl (pgs_cons (pg_name (i := 3) sc_checked_heap.nd rfl (Or.inl rfl)) (pgs_cons (pg_name (i := 4) sc_checked_heap.nd rfl (Or.inl rfl)) pgs_nil)))
      (pss_cons (ps_if (PW.pt (pw_or (pt_not (pt_val (pe_call G_is_slip (hr.mono (by decide)) rfl d_is_slip.g d_is_slip.F.kp d_is_slip.b .nil pass0 (pa_cons (pv 0) (pa_cons (pv 4) pa_nil))))) (pw_or1 (pt_cmpR or_sin (pe_ix ix_tup (pv 4) pe_int (fun _ _ => rfl)) (pv 2) (by with_unfolding_all rfl))))) (pss_one (ps_raiseLow rfl TI hr (takes_of rfl rfl rfl rfl) (pa_cons (pv 3) pa_nil) (by rfl))) pss_nil)
      (pss_one (ps_expr (pe_sadd (pv 2) (pa_cons (pe_ix ix_tup (pv 4) pe_int (fun _ _ => rfl)) pa_nil))))))
    (pss_one (ps_ret (pe_tupleOf (by rfl) T.tuple (pe_callB cr_sort2 (by rfl) zsort (by decide +kernel) (pa_cons (pv 1) pa_nil)))))))), ?_⟩
      refine ⟨_, rfl, _, _, rfl, D, fun H1 S1 => ⟨false, rfl, iteT ⟨_, rfl, fun q hq => ?_⟩⟩⟩
      have e : heapRes A (.str x0) = some 0 := rfl
      rw [e] at kR
      exact kR H1 q S1 hq
    | dct h0 => 
      refine ⟨_, (pss_cons (ps_if (pt_not (pt_val (pe_call G_is_sequence (hr.mono (by decide)) rfl d_is_sequence.g d_is_sequence.F.kp d_is_sequence.b .nil pass0 (pa_cons (pv 1) pa_nil)))) (pss_one (ps_raiseLow rfl TI hr (takes_of rfl rfl rfl rfl) (pa_cons pe_int pa_nil) (by rfl))) pss_nil)
    (pss_cons (ps_set (i := 2) sc_checked_heap.nd rfl (Or.inl rfl) (pe_callTy0 cr_set0 (by rfl) zset (by decide +kernel)))
    (pss_cons (ps_for (passes_of rfl) rfl (pi_enum (by rfl) T.enumerate (pa_cons (pv 1) pa_nil)) (pg_tup rfl (pgs_cons (pg_name (i := 3) sc_checked_heap.nd rfl (Or.inl rfl)) (pgs_cons (pg_name (i := 4) sc_checked_heap.nd rfl (Or.inl rfl)) pgs_nil)))
      (pss_cons (ps_if (PW.pt (pw_or (pt_not (pt_val (pe_call G_is_slip (hr.mono (by decide)) rfl d_is_slip.g d_is_slip.F.kp d_is_slip.b .nil pass0 (pa_cons (pv 0) (pa_cons (pv 4) pa_nil))))) (pw_or1 (pt_cmpR or_sin (pe_ix ix_tup (pv 4) pe_int (fun _ _ => rfl)) (pv 2) (by with_unfolding_all rfl))))) (pss_one (ps_raiseLow rfl TI hr (takes_of rfl rfl rfl rfl) (pa_cons (pv 3) pa_nil) (by rfl))) pss_nil)
      (pss_one (ps_expr (pe_sadd (pv 2) (pa_cons (pe_ix ix_tup (pv 4) pe_int (fun _ _ => rfl)) pa_nil))))))
    (pss_one (ps_ret (pe_tupleOf (by rfl) T.tuple (pe_callB cr_sort2 (by rfl) zsort (by decide +kernel) (pa_cons (pv 1) pa_nil)))))))), ?_⟩
      refine ⟨_, rfl, _, _, rfl, D, fun H1 S1 => ⟨false, rfl, iteT ⟨_, rfl, fun q hq => ?_⟩⟩⟩
      have e : heapRes A (.dict []) = some 0 := rfl
      rw [e] at kR
      exact kR H1 q S1 hq
end
end Lk

set_option Elab.async false
set_option linter.all false
set_option maxRecDepth 100000
set_option maxHeartbeats 4000000
namespace Lk
open PySem L2
abbrev s_place_of : Stmt := top 23
abbrev N_place_of : List Str := ["heap", "time", "times", "entry", "_"]
abbrev P_place_of : List Str := ["heap", "time"]
theorem sc_place_of : FnScope N_place_of P_place_of (defScope s_place_of) := ⟨rfl, rfl, rfl, by decide +kernel, rfl, by decide +kernel, by decide +kernel⟩
theorem HeapAt.same {H H' : Hp} {q : Addr} {ps : List (Addr × Int × Int)} (x : HeapAt H q ps) (S : Same H H') : HeapAt H' q ps := ⟨S _ _ x.top, fun p hp => S _ _ (x.row p hp), x.srt⟩
section
variable {K : PySem.W.Frag} {te : TE} {σ : St} {H1 : Hp} {D : Addr} {Qd : Hp → Prop}
/-- a comprehension over a tuple of pairs, into the slots i and j -/
theorem lcQ {i j : Nat} {a : Addr} {ps : List (Addr × Int × Int)} (F : Int → Int → V) (hD : H1 D = none) (hn : ps.length ≤ 1000000) (ha : H1 a = some (.tup (ps.map fun p => V.ref p.1))) (hr : ∀ p ∈ ps, H1 p.1 = some (.tup [.int p.2.1, .int p.2.2]))
    (hw : ∀ x y : V, wipe (((wipe σ [i, j]).set i (some x)).set j (some y)) [i, j] = wipe σ [i, j])
    (hs : ∀ (x y : Int) H, Same H1 H → ∀ Q : VK, (∀ H4, Same H H4 → Q (F x y) H4) → te (((wipe σ [i, j]).set i (some (.int x))).set j (some (.int y))) H Q)
    (hd : ∀ H', H' D = some (.lst (ps.map fun p => F p.2.1 p.2.2)) → Same H1 H' → Qd H') :
    ∃ W : Nat → Nat → Hp → Prop, (∃ m, W 0 m (upd H1 D (.lst []))) ∧ ∀ k m H, W k m H →
      ((Itt K a).stop k H ∧ Qd H) ∨ ((Itt K a).go k H ∧ ∃ Nx : Hp → Prop, (∀ H', Nx H' → ∃ m', m' < m ∧ W (k + 1) m' H') ∧ ∀ x H', (Itt K a).yld k H x H' → gTup K 2 (gCons (gName i) (gCons (gName j) gNil)) x (wipe σ [i, j]) H' fun σ2 H2 => wipe σ2 [i, j] = wipe σ [i, j] ∧ tYes σ2 H2 fun b H3 =>
        if b = true then te σ2 H3 fun y H4 => ∃ acc, H4 D = some (.lst acc) ∧ acc.length < sizeLine ∧ Nx (upd H4 D (.lst (acc ++ [y]))) else Nx H3) := by
  refine lc_tup (xs := ps.map fun p => V.ref p.1) (fun k H => Same H1 H ∧ H D = some (.lst ((ps.take k).map fun p => F p.2.1 p.2.2))) ⟨(KP.new (S := fun _ => False) hD).toSame, upd_same⟩ (fun k H _ x => SqT.of (x.1 _ _ ha)) (fun k x0 H hi x => ?_) (fun H x => ?_)
  · rw [List.getElem?_map] at hi
    obtain ⟨p, hp, rfl⟩ : ∃ u, ps[k]? = some u ∧ V.ref u.1 = x0 := by
      cases e : ps[k]? with
      | none => rw [e] at hi; cases hi
      | some u => rw [e] at hi; exact ⟨u, rfl, Option.some.inj hi⟩
    have hm := mem_of_get hp
    refine ⟨p.1, _, rfl, SqT.of (x.1 _ _ (hr p hm)), rfl, _, _, rfl, _, _, rfl, rfl, hw _ _, iteT (B := Same H1 H ∧ H D = some (.lst ((ps.take (k + 1)).map fun p => F p.2.1 p.2.2))) ?_⟩
    refine hs _ _ H x.1 _ fun H4 S4 => ⟨_, S4 _ _ x.2, ?_, ((KP.same (S := fun _ => False) (x.1.trans S4)).mut hD).toSame, ?_⟩
    · rw [List.length_map, List.length_take]
      exact Nat.lt_of_le_of_lt (Nat.le_trans (Nat.min_le_right _ _) hn) (by decide)
    · rw [upd_same, take_next hp, List.map_append]
      rfl
  · have e := x.2
    rw [List.length_map, List.take_length] at e
    exact hd H e x.1
end
theorem inV_ints {t : Int} : ∀ ts : List Int, inV (.int t) (ts.map V.int) = decide (t ∈ ts)
  | [] => rfl
  | z :: ts => by
    show (eqV (.int z) (.int t) || inV (.int t) (ts.map V.int)) = _
    rw [inV_ints ts]
    have e : eqV (.int z) (.int t) = decide (t = z) := by
      show (z == t) = _
      by_cases h : t = z
      · rw [h]
        simp
      · rw [decide_eq_false h]
        simpa using fun e : z = t => h e.symm
    rw [e]
    by_cases h : t = z
    · rw [decide_eq_true h, Bool.true_or]
      exact (decide_eq_true (by rw [h]; exact List.mem_cons_self)).symm
    · rw [decide_eq_false h, Bool.false_or]
      by_cases h2 : t ∈ ts
      · rw [decide_eq_true h2]
        exact (decide_eq_true (List.mem_cons_of_mem _ h2)).symm
      · rw [decide_eq_false h2]
        exact (decide_eq_false fun q => (List.mem_cons.mp q).elim h h2).symm
theorem flat_ints : ∀ ts : List Int, (ts.map V.int).all flatV = true
  | [] => rfl
  | z :: ts => by
    rw [List.map_cons, List.all_cons, flat_ints ts] <;> rfl
/-- the place of the first slip with a time -/
def atT : List (Int × Int) → Int → Option Nat
  | [], _ => none
  | r :: rs, t => if r.1 = t then some 0 else (atT rs t).map (· + 1)
theorem atT_no : ∀ {rs : List (Int × Int)} {t : Int}, t ∉ rs.map (·.1) → atT rs t = none
  | [], _, _ => rfl
  | r :: rs, t, h => by
    rw [List.map_cons, List.mem_cons, not_or] at h
    show (if r.1 = t then some 0 else (atT rs t).map (· + 1)) = none
    rw [if_neg (fun e => h.1 e.symm), atT_no h.2] <;> rfl
theorem atT_at : ∀ {rs : List (Int × Int)} {t : Int}, t ∈ rs.map (·.1) → ∃ j r, atT rs t = some j ∧ rs[j]? = some r ∧ r.1 = t ∧ ∀ (m : Nat) (q : Int × Int), m < j → rs[m]? = some q → q.1 ≠ t
  | [], _, h => by cases h
  | r :: rs, t, h => by
    by_cases e : r.1 = t
    · exact ⟨0, r, if_pos e, rfl, e, fun m q hm => absurd hm (Nat.not_lt_zero m)⟩
    · have h' : t ∈ rs.map (·.1) := by
        rw [List.map_cons, List.mem_cons] at h
        exact h.resolve_left fun q => e q.symm
      obtain ⟨j, x, h1, h2, h3, h4⟩ := atT_at h'
      refine ⟨j + 1, x, ?_, h2, h3, fun m q hm hq => ?_⟩
      · show (if r.1 = t then some 0 else (atT rs t).map (· + 1)) = _
        rw [if_neg e, h1] <;> rfl
      · match m, hq with
        | 0, hq =>
          cases hq
          exact e
        | m + 1, hq => exact h4 m q (by omega) hq
def plRes (rs : List (Int × Int)) (dy : PyData) : Option Nat := if isN dy = true then atT rs (intD dy) else none
def spPlace (CR : Addr) : Sp := fun vs H Q E => ∃ (q : Addr) (y : V) (dy : PyData) (ps : List (Addr × Int × Int)), vs = [.ref q, y] ∧ HeapAt H q ps ∧ ps.length ≤ 1000 ∧ Dv H y dy ∧
  match plRes (ps.map (·.2)) dy with
  | none => ∀ H' p, Same H H' → H' p = none → E (.ref CR) (some p) (upd H' p (.xd [(("at" : Str), .int 0)]))
  | some j => ∀ H', Same H H' → Q (.int (j : Int)) H'
section
variable {P : Program} {w : World} {K : PySem.W.Frag} {mg : Str → Option Value} {base : Heap} {CR fR : Addr}
theorem ok_place_of {f fn : Addr} {fd fdn : FuncData} (A0 : Df K mg "_place_of" s_place_of f fd P_place_of) (d_is_number : Df K mg "is_number" s_is_number fn fdn P_is_number) (G_is_number : FnOk P w K mg base CX0 2 fn fdn P_is_number (spT1 isN)) (TR : PySem.ErrX.ErrTxt K mg "Refused" "Refused.__init__" CR fR) :
    FnOk P w K mg base (L2.CX P w) 7 f fd P_place_of (spPlace CR) := by
  refine A0.F.okX sc_place_of (fun vs H Q E h => ?_) (fun cdv Ar outer s H vs Q E hr h => ?_)
  · obtain ⟨q, y, dy, ps, rfl, _⟩ := h
    rfl
  · obtain ⟨q, y, dy, ps, rfl, hp, hl, D, k⟩ := h
    have tk : Takes (cxOf (L2.CX P w) P w K mg base N_place_of "_place_of" (defScope s_place_of) f cdv Ar outer s H E) (fun cls d _ H => E cls d H) := takes_of rfl rfl rfl rfl
    refine ⟨_, (pss_cons (ps_setLc (i := 2) (own := [("entry", 3), ("_", 4)]) (g := gTup K 2 (gCons (gName 3) (gCons (gName 4) gNil))) (tt := tYes) (te := tVar 3) rfl sc_place_of.nd rfl rfl (sw_true rfl rfl rfl (by decide +kernel)) (pi_tup (pv 0)) (blkOk_by (N := N_place_of) (sc := defScope s_place_of) (by decide +kernel)) (fun _ _ _ _ _ => (pg_tup rfl (pgs_cons (pg_name (i := 3) sc_place_of.nd rfl (Or.inl rfl)) (pgs_cons (pg_name (i := 4) sc_place_of.nd rfl (Or.inl rfl)) pgs_nil)))) (fun _ _ _ _ _ => pts_nil) (fun _ _ _ _ _ => (pv 3)))
    (pss_cons (ps_if (PW.pt (pw_or (pt_not (pt_val (pe_call G_is_number (hr.mono (by decide)) rfl d_is_number.g d_is_number.F.kp d_is_number.b .nil pass0 (pa_cons (pv 1) pa_nil)))) (pw_or1 (pt_cmpR op_notIn_seq (pv 1) (pv 2) (by with_unfolding_all rfl))))) (pss_one (ps_raiseLow rfl TR hr tk (pa_cons pe_int pa_nil) (by rfl))) pss_nil)
    (pss_one (ps_ret (pe_bm PySem.F.plainAttrs_list PySem.F.slot_list_index PySem.F.type_list_index mt_index (pv 2) (pa_cons (pv 1) pa_nil)))))), ?_⟩
    refine ⟨_, rfl, q, rfl, ⟨_, SqT.of hp.top⟩, fun D0 hD0 => ?_⟩
    refine lcQ (K := K) (i := 3) (j := 4) (fun t _ => V.int t) hD0 (by omega) hp.top hp.row (fun _ _ => rfl) (fun t c H2 S2 Q2 k2 => ⟨_, rfl, k2 _ (Same.refl _)⟩) (fun H2 e2 S2 => ?_)
    have et : (ps.map fun p => V.int p.2.1) = (((ps.map (·.2)).map (·.1))).map V.int := by
      rw [List.map_map, List.map_map]
      rfl
    rw [et] at e2
    refine ⟨_, rfl, y, dy, rfl, D.same S2, fun H3 S3 => ⟨isN dy, rfl, ?_⟩⟩
    cases hn : isN dy with
    | false =>
      have e0 : plRes (ps.map (·.2)) dy = none := by
        unfold plRes
        rw [hn] <;> rfl
      rw [e0] at k
      exact iteT ⟨_, rfl, fun p hp' => k _ p (S2.trans S3) hp'⟩
    | true =>
      obtain ⟨t, rfl, rfl⟩ : ∃ t, dy = .int t ∧ y = .int t := by
        cases dy with
        | int t =>
          cases D
          exact ⟨t, rfl, rfl⟩
        | none => cases hn
        | bool _ => cases hn
        | str _ => cases hn
        | list _ => cases hn
        | tuple _ => cases hn
        | dict _ => cases hn
      have e0 : plRes (ps.map (·.2)) (.int t) = atT (ps.map (·.2)) t := by
        unfold plRes
        rw [hn] <;> rfl
      rw [e0] at k
      refine iteF ⟨_, rfl, _, rfl, D0, _, rfl, .inl (SqL.of (S3 _ _ e2)), rfl, flat_ints _, _, rfl, ?_⟩
      have ein : (if true = true then !inV (V.int t) (((ps.map (·.2)).map (·.1)).map V.int) else inV (V.int t) (((ps.map (·.2)).map (·.1)).map V.int)) = !decide (t ∈ (ps.map (·.2)).map (·.1)) := by
        rw [if_pos rfl, inV_ints]
      rw [ein]
      by_cases hm : t ∈ (ps.map (·.2)).map (·.1)
      · rw [decide_eq_true hm]
        obtain ⟨j, r, h1, h2, h3, h4⟩ := atT_at hm
        rw [h1] at k
        refine iteF ⟨_, rfl, .inl ⟨rfl, _, SqL.of (S3 _ _ e2)⟩, _, rfl, D0, _, _, j, .int t, rfl, rfl, SqL.of (S3 _ _ e2), rfl, flat_ints _, ?_, ?_, fun m z hm2 hz => ?_, k _ (S2.trans S3)⟩
        · rw [List.getElem?_map, List.getElem?_map, h2, ← h3]
          rfl
        · show (t == t) = true
          simp
        · rw [List.getElem?_map, List.getElem?_map] at hz
          cases e : (ps.map (·.2))[m]? with
          | none => rw [e] at hz; cases hz
          | some x =>
            rw [e] at hz
            cases hz
            show (x.1 == t) = false
            simpa using h4 m x hm2 e
      · rw [decide_eq_false hm]
        rw [atT_no hm] at k
        exact iteT ⟨_, rfl, fun p hp' => k _ p (S2.trans S3) hp'⟩
end
end Lk

set_option Elab.async false
set_option linter.all false
set_option maxRecDepth 100000
set_option maxHeartbeats 4000000
namespace Lk
open PySem L2
abbrev s_exchange : Stmt := top 20
abbrev N_exchange : List Str := ["machine", "heap", "slip", "place"]
abbrev P_exchange : List Str := ["machine", "heap", "slip"]
theorem sc_exchange : FnScope N_exchange P_exchange (defScope s_exchange) := ⟨rfl, rfl, rfl, by decide +kernel, rfl, by decide +kernel, by decide +kernel⟩
abbrev s_swap : Stmt := top 21
abbrev N_swap : List Str := ["machine", "heap", "time", "place", "earlier", "one", "later", "other"]
abbrev P_swap : List Str := ["machine", "heap", "time"]
theorem sc_swap : FnScope N_swap P_swap (defScope s_swap) := ⟨rfl, rfl, rfl, by decide +kernel, rfl, by decide +kernel, by decide +kernel⟩
abbrev s_strike : Stmt := top 22
abbrev N_strike : List Str := ["machine", "heap", "time", "place"]
abbrev P_strike : List Str := ["machine", "heap", "time"]
theorem sc_strike : FnScope N_strike P_strike (defScope s_strike) := ⟨rfl, rfl, rfl, by decide +kernel, rfl, by decide +kernel, by decide +kernel⟩
/-! ### parts of tuples, and two together -/
theorem slA {K : PySem.W.Frag} {H : Hp} {a : Addr} {xs : List V} {lo hi : Option Int} {Q : VK} (h : H a = some (.tup xs)) (k : ∀ H' p, Same H H' → H' p = some (.tup (cutV xs lo hi)) → Q (.ref p) H') : rSlA K (.ref a) lo hi H Q := by
  refine ⟨a, xs, rfl, SqT.of h, fun e => k H a (Same.refl _) ?_, fun _ p hp => k _ p (Same.new hp) upd_same⟩
  have e2 : cutV xs lo hi = xs := by
    unfold cutV
    rw [e.1, e.2, List.drop_zero, Nat.sub_zero, List.take_length]
  rw [e2]
  exact h
theorem catA {K : PySem.W.Frag} {H : Hp} {a b : Addr} {xs ys : List V} {Q : VK} (ha : H a = some (.tup xs)) (hb : H b = some (.tup ys)) (hz : xs.length + ys.length ≤ sizeLine) (k : ∀ H' p, Same H H' → H' p = some (.tup (xs ++ ys)) → Q (.ref p) H') : rCatA K (.ref a) (.ref b) H Q := by
  refine ⟨a, b, xs, ys, rfl, rfl, SqT.of ha, SqT.of hb, hz, fun e => k H b (Same.refl _) ?_, fun _ e => k H a (Same.refl _) ?_, fun _ _ p hp => k _ p (Same.new hp) upd_same⟩
  · rw [e, List.nil_append]
    exact hb
  · rw [e, List.append_nil]
    exact ha
theorem ctTo {xs : List V} {n : Nat} : cutV xs none (some (n : Int)) = xs.take n := by
  have e1 : HT.sIx xs.length 0 none = 0 := rfl
  have e2 : HT.sIx xs.length xs.length (some (n : Int)) = min n xs.length := by
    show (if (n : Int) < 0 then ((n : Int) + ((xs.length : Nat) : Int)).toNat else min (n : Int).toNat xs.length) = _
    rw [if_neg (by omega), Int.toNat_natCast]
  unfold cutV
  rw [e1, e2, List.drop_zero, Nat.sub_zero]
  exact (List.take_eq_take_min ..).symm
theorem ctFrom {xs : List V} {n : Nat} : cutV xs (some (n : Int)) none = xs.drop n := by
  have e1 : HT.sIx xs.length xs.length none = xs.length := rfl
  have e2 : HT.sIx xs.length 0 (some (n : Int)) = min n xs.length := by
    show (if (n : Int) < 0 then ((n : Int) + ((xs.length : Nat) : Int)).toNat else min (n : Int).toNat xs.length) = _
    rw [if_neg (by omega), Int.toNat_natCast]
  unfold cutV
  rw [e1, e2]
  by_cases h : n ≤ xs.length
  · rw [Nat.min_eq_left h]
    exact List.take_of_length_le (by rw [List.length_drop]; exact Nat.le_refl _)
  · rw [Nat.min_eq_right (by omega), List.drop_of_length_le (Nat.le_refl _), List.drop_of_length_le (by omega)]
    exact List.take_nil
theorem cut_mid {xs : List V} {j n : Nat} (h : n ≤ xs.length) (hj : j ≤ n) : cutV xs (some (j : Int)) (some (n : Int)) = (xs.drop j).take (n - j) := by
  have e1 : HT.sIx xs.length xs.length (some (n : Int)) = n := by
    show (if (n : Int) < 0 then ((n : Int) + ((xs.length : Nat) : Int)).toNat else min (n : Int).toNat xs.length) = _
    rw [if_neg (by omega), Int.toNat_natCast, Nat.min_eq_left h]
  have e2 : HT.sIx xs.length 0 (some (j : Int)) = j := by
    show (if (j : Int) < 0 then ((j : Int) + ((xs.length : Nat) : Int)).toNat else min (j : Int).toNat xs.length) = _
    rw [if_neg (by omega), Int.toNat_natCast, Nat.min_eq_left (by omega)]
  unfold cutV
  rw [e1, e2]
def pairP (r : Int × Int) : PyData := .tuple [.int r.1, .int r.2]
def heapP (rs : List (Int × Int)) : PyData := .tuple (rs.map pairP)
theorem dvAll_app {H : Hp} : ∀ {xs ys : List V} {ds es : List PyData}, DvAll H xs ds → DvAll H ys es → DvAll H (xs ++ ys) (ds ++ es)
  | [], _, _, _, .nil, h => h
  | _ :: _, _, _, _, .cons a t, h => .cons a (dvAll_app t h)
theorem dvAll_heap {H : Hp} : ∀ {ps : List (Addr × Int × Int)}, (∀ p ∈ ps, H p.1 = some (.tup [.int p.2.1, .int p.2.2])) → DvAll H (ps.map fun p => V.ref p.1) ((ps.map (·.2)).map pairP)
  | [], _ => .nil
  | p :: ps, h => .cons (.tup (h p List.mem_cons_self) (.cons (.int _) (.cons (.int _) .nil))) (dvAll_heap fun q hq => h q (List.mem_cons_of_mem _ hq))
theorem HeapAt.dv {H : Hp} {q : Addr} {ps : List (Addr × Int × Int)} (x : HeapAt H q ps) : Dv H (.ref q) (heapP (ps.map (·.2))) := .tup x.top (dvAll_heap x.row)
abbrev Asc (rs : List (Int × Int)) : Prop := rs.Pairwise fun x y => x.1 < y.1
def exD (rs : List (Int × Int)) (j : Nat) (r : Int × Int) : List (Int × Int) := rs.take j ++ [r] ++ rs.drop (j + 1)
def swD (rs : List (Int × Int)) (j : Nat) : List (Int × Int) := rs.take j ++ [((rs.getD j (0, 0)).1, (rs.getD (j + 1) (0, 0)).2), ((rs.getD (j + 1) (0, 0)).1, (rs.getD j (0, 0)).2)] ++ rs.drop (j + 2)
def stD (rs : List (Int × Int)) (j : Nat) : List (Int × Int) := rs.take j ++ rs.drop (j + 1)
/-- what an error leaves -/
def Err (E : Value → Option Addr → Hp → Prop) (C : Addr) (H : Hp) (k : Int) : Prop := ∀ H' q, Same H H' → H' q = none → E (.ref C) (some q) (upd H' q (.xd [(("at" : Str), .int k)]))
theorem Err.go {E : Value → Option Addr → Hp → Prop} {C : Addr} {H H1 : Hp} {k : Int} (x : Err E C H k) (S : Same H H1) : Err E C H1 k := fun H' q S' hq => x H' q (S.trans S') hq
def spExch (CM CI CR : Addr) : Sp := fun vs H Q E => ∃ (m : Addr) (x y : V) (dx dy : PyData) (A : Int) (us : List (Addr × List Int)), vs = [.ref m, x, y] ∧ MachAt CM H m A us ∧ Dv H x dx ∧ Dv H y dy ∧ (itemsD dx).length ≤ 1000 ∧
  match heapRes A dx with
  | some k => Err E CI H k
  | none => (isP A dy = false → Err E CI H 0) ∧ (isP A dy = true → ∀ rs : List (Int × Int), Asc rs → rs.Perm ((itemsD dx).map pairD) → match atT rs (pairD dy).1 with
    | none => Err E CR H 0
    | some j => ∀ H' v, Same H H' → Dv H' v (heapP (exD rs j (pairD dy))) → Q v H')
def spSwap (CM CI CR : Addr) : Sp := fun vs H Q E => ∃ (m : Addr) (x y : V) (dx dy : PyData) (A : Int) (us : List (Addr × List Int)), vs = [.ref m, x, y] ∧ MachAt CM H m A us ∧ Dv H x dx ∧ Dv H y dy ∧ (itemsD dx).length ≤ 1000 ∧
  match heapRes A dx with
  | some k => Err E CI H k
  | none => ∀ rs : List (Int × Int), Asc rs → rs.Perm ((itemsD dx).map pairD) → match plRes rs dy with
    | none => Err E CR H 0
    | some j => if j + 1 = rs.length then Err E CR H 0 else ∀ H' v, Same H H' → Dv H' v (heapP (swD rs j)) → Q v H'
def spStrike (CM CI CR : Addr) : Sp := fun vs H Q E => ∃ (m : Addr) (x y : V) (dx dy : PyData) (A : Int) (us : List (Addr × List Int)), vs = [.ref m, x, y] ∧ MachAt CM H m A us ∧ Dv H x dx ∧ Dv H y dy ∧ (itemsD dx).length ≤ 1000 ∧
  match heapRes A dx with
  | some k => Err E CI H k
  | none => ∀ rs : List (Int × Int), Asc rs → rs.Perm ((itemsD dx).map pairD) → match plRes rs dy with
    | none => Err E CR H 0
    | some j => ∀ H' v, Same H H' → Dv H' v (heapP (stD rs j)) → Q v H'
theorem plRes_lt {rs : List (Int × Int)} {dy : PyData} {j : Nat} (h : plRes rs dy = some j) : j < rs.length := by
  unfold plRes at h
  split at h
  · by_cases hm : intD dy ∈ rs.map (·.1)
    · obtain ⟨i, r, h1, h2, _⟩ := atT_at hm
      rw [h] at h1
      cases h1
      exact (List.getElem?_eq_some_iff.mp h2).1
    · rw [atT_no hm] at h
      cases h
  · cases h
section
variable {P : Program} {w : World} {K : PySem.W.Frag} {mg : Str → Option Value} {base : Heap} {CM CI CR fCI fR : Addr}
theorem ok_strike {f fh fp : Addr} {fd fdh fdp : FuncData} (A0 : Df K mg "strike" s_strike f fd P_strike) (d_checked_heap : Df K mg "checked_heap" s_checked_heap fh fdh P_checked_heap) (d_place_of : Df K mg "_place_of" s_place_of fp fdp P_place_of)
    (G_checked_heap : FnOk P w K mg base (L2.CX P w) 7 fh fdh P_checked_heap (spHeap CM CI)) (G_place_of : FnOk P w K mg base (L2.CX P w) 7 fp fdp P_place_of (spPlace CR)) :
    FnOk P w K mg base (L2.CX P w) 8 f fd P_strike (spStrike CM CI CR) := by
  refine A0.F.okX sc_strike (fun vs H Q E h => ?_) (fun cdv Ar outer s H vs Q E hr h => ?_)
  · obtain ⟨m, x, y, dx, dy, A, us, rfl, _⟩ := h
    rfl
  · obtain ⟨m, x, y, dx, dy, A, us, rfl, M, Dx, Dy, hz, kR⟩ := h
    have tk : Takes (cxOf (L2.CX P w) P w K mg base N_strike "strike" (defScope s_strike) f cdv Ar outer s H E) (fun cls d _ H => E cls d H) := takes_of rfl rfl rfl rfl
    refine ⟨_, (pss_cons (ps_set (i := 1) sc_strike.nd rfl (Or.inl rfl) (pe_callS G_checked_heap hr rfl d_checked_heap.g d_checked_heap.F.kp d_checked_heap.b (fun σ => passAt tk σ) (pa_cons (pv 0) (pa_cons (pv 1) pa_nil))))
    (pss_cons (ps_set (i := 3) sc_strike.nd rfl (Or.inl rfl) (pe_callS G_place_of hr rfl d_place_of.g d_place_of.F.kp d_place_of.b (fun σ => passAt tk σ) (pa_cons (pv 1) (pa_cons (pv 2) pa_nil))))
    (pss_one (ps_ret (pe_op op_catA (pe_slice sl_tupA (pv 1) po_none (po_some (pv 3))) (pe_slice sl_tupA (pv 1) (po_some (pe_op op_add (pv 3) pe_int)) po_none)))))), ?_⟩
    refine ⟨_, rfl, _, rfl, m, x, dx, A, us, rfl, M, Dx, hz, ?_⟩
    cases e : heapRes A dx with
    | some k =>
      rw [e] at kR
      exact kR
    | none =>
      rw [e] at kR
      intro H1 qh ps S1 hp hpm
      have kP := kR (ps.map (·.2)) hp.srt hpm
      have hl : ps.length ≤ 1000 := by
        have := hpm.length_eq
        rw [List.length_map, List.length_map] at this
        omega
      refine ⟨_, rfl, _, rfl, qh, y, dy, ps, rfl, hp, hl, Dy.same S1, ?_⟩
      cases e2 : plRes (ps.map (·.2)) dy with
      | none =>
        rw [e2] at kP
        exact kP.go S1
      | some j =>
        rw [e2] at kP
        intro H2 S2
        have hp2 := hp.same S2
        refine ⟨_, rfl, _, rfl, _, rfl, slA hp2.top fun H3 a3 S3 h3 => ⟨_, rfl, _, rfl, _, _, rfl, rfl, _, rfl, noPart (slA (hp2.same S3).top fun H4 a4 S4 h4 => ?_)⟩⟩
        rw [ctTo] at h3
        rw [show ((j : Int) + 1) = ((j + 1 : Nat) : Int) by omega, ctFrom] at h4
        refine catA (S4 _ _ h3) h4 ?_ fun H5 a5 S5 h5 => ?_
        · rw [List.length_take, List.length_drop, List.length_map]
          exact Nat.le_trans (show _ ≤ 2000 by omega) (by decide)
        · have S25 := (S3.trans S4).trans S5
          refine kP _ _ (((S1.trans S2).trans S25)) ?_
          have hp5 := hp2.same S25
          rw [← List.map_take, ← List.map_drop] at h5
          refine .tup h5 ?_
          unfold stD
          rw [List.map_append, ← List.map_take, ← List.map_drop]
          exact dvAll_app (dvAll_heap fun p hp => hp5.row p (List.mem_of_mem_take hp)) (dvAll_heap fun p hp => hp5.row p (List.mem_of_mem_drop hp))
end
end Lk

set_option Elab.async false
set_option linter.all false
set_option maxRecDepth 100000
set_option maxHeartbeats 4000000
namespace Lk
open PySem L2
section
variable {P : Program} {w : World} {K : PySem.W.Frag} {mg : Str → Option Value} {base : Heap} {CM CI CR fCI fR : Addr}
theorem ok_exchange {f fh fs fp : Addr} {fd fdh fds fdp : FuncData} (A0 : Df K mg "exchange" s_exchange f fd P_exchange) (d_checked_heap : Df K mg "checked_heap" s_checked_heap fh fdh P_checked_heap) (d_checked_slip : Df K mg "checked_slip" s_checked_slip fs fds P_checked_slip) (d_place_of : Df K mg "_place_of" s_place_of fp fdp P_place_of)
    (G_checked_heap : FnOk P w K mg base (L2.CX P w) 7 fh fdh P_checked_heap (spHeap CM CI)) (G_checked_slip : FnOk P w K mg base (L2.CX P w) 6 fs fds P_checked_slip (spCSlip CM CI)) (G_place_of : FnOk P w K mg base (L2.CX P w) 7 fp fdp P_place_of (spPlace CR)) :
    FnOk P w K mg base (L2.CX P w) 8 f fd P_exchange (spExch CM CI CR) := by
  refine A0.F.okX sc_exchange (fun vs H Q E h => ?_) (fun cdv Ar outer s H vs Q E hr h => ?_)
  · obtain ⟨m, x, y, dx, dy, A, us, rfl, _⟩ := h
    rfl
  · obtain ⟨m, x, y, dx, dy, A, us, rfl, M, Dx, Dy, hz, kR⟩ := h
    have tk : Takes (cxOf (L2.CX P w) P w K mg base N_exchange "exchange" (defScope s_exchange) f cdv Ar outer s H E) (fun cls d _ H => E cls d H) := takes_of rfl rfl rfl rfl
    refine ⟨_, (pss_cons (ps_set (i := 1) sc_exchange.nd rfl (Or.inl rfl) (pe_callS G_checked_heap hr rfl d_checked_heap.g d_checked_heap.F.kp d_checked_heap.b (fun σ => passAt tk σ) (pa_cons (pv 0) (pa_cons (pv 1) pa_nil))))
    (pss_cons (ps_set (i := 2) sc_exchange.nd rfl (Or.inl rfl) (pe_callS G_checked_slip (hr.mono (by decide)) rfl d_checked_slip.g d_checked_slip.F.kp d_checked_slip.b (fun σ => passAt tk σ) (pa_cons (pv 0) (pa_cons (pv 2) pa_nil))))
    (pss_cons (ps_set (i := 3) sc_exchange.nd rfl (Or.inl rfl) (pe_callS G_place_of hr rfl d_place_of.g d_place_of.F.kp d_place_of.b (fun σ => passAt tk σ) (pa_cons (pv 1) (pa_cons (pe_ix ix_tup (pv 2) pe_int (fun _ _ => rfl)) pa_nil))))
    (pss_one (ps_ret (pe_op op_catA (pe_op op_catA (pe_slice sl_tupA (pv 1) po_none (po_some (pv 3))) (pe_tup (pa_cons (pv 2) pa_nil))) (pe_slice sl_tupA (pv 1) (po_some (pe_op op_add (pv 3) pe_int)) po_none))))))), ?_⟩
    refine ⟨_, rfl, _, rfl, m, x, dx, A, us, rfl, M, Dx, hz, ?_⟩
    cases e : heapRes A dx with
    | some k =>
      rw [e] at kR
      exact kR
    | none =>
      rw [e] at kR
      intro H1 qh ps S1 hp hpm
      refine ⟨_, rfl, _, rfl, m, y, dy, A, us, rfl, M.same S1, Dy.same S1, fun hb => (kR.1 hb).go S1, fun hb H2 S2 => ?_⟩
      have kP := kR.2 hb (ps.map (·.2)) hp.srt hpm
      have hl : ps.length ≤ 1000 := by
        have := hpm.length_eq
        rw [List.length_map, List.length_map] at this
        omega
      obtain ⟨b, tm, c, rfl, hbb, rfl, hc⟩ := slip_read Dy hb
      have S12 := S1.trans S2
      have hp2 := hp.same S2
      refine ⟨_, rfl, _, rfl, b, _, 0, V.int tm, rfl, rfl, SqT.of (S12 _ _ hbb), rfl, qh, .int tm, .int tm, ps, rfl, hp2, hl, .int _, ?_⟩
      have e1 : plRes (ps.map (·.2)) (.int tm) = atT (ps.map (·.2)) tm := by
        unfold plRes
        rw [show isN (.int tm) = true from decide_eq_true hc.1] <;> rfl
      rw [e1]
      have kP' : match atT (ps.map (·.2)) tm with
        | none => Err E CR H 0
        | some j => ∀ H' v, Same H H' → Dv H' v (heapP (exD (ps.map (·.2)) j (tm, c))) → Q v H' := kP
      cases e2 : atT (ps.map (·.2)) tm with
      | none =>
        rw [e2] at kP'
        exact kP'.go S12
      | some j =>
        rw [e2] at kP'
        intro H3 S3
        have hp3 := hp2.same S3
        refine ⟨_, rfl, _, rfl, _, rfl, slA hp3.top fun H4 a4 S4 h4 => ⟨_, rfl, by show 1 ≤ sizeLine; decide, fun a5 h5 => ?_⟩⟩
        rw [ctTo] at h4
        have S5 := S4.trans (Same.new (o := HO.tup [V.ref b]) h5)
        refine catA (nk h4 h5) upd_same ?_ fun H6 a6 S6 h6 => ⟨_, rfl, _, rfl, _, _, rfl, rfl, _, rfl, noPart (slA (hp3.same (S5.trans S6)).top fun H7 a7 S7 h7 => ?_)⟩
        · rw [List.length_take, List.length_map]
          exact Nat.le_trans (show _ ≤ 2000 from Nat.add_le_add (show _ ≤ 1000 by omega) (show 1 ≤ 1000 by decide)) (by decide)
        rw [show ((j : Int) + 1) = ((j + 1 : Nat) : Int) by omega, ctFrom] at h7
        refine catA (S7 _ _ h6) h7 ?_ fun H8 a8 S8 h8 => ?_
        · rw [List.length_append, List.length_take, List.length_drop, List.length_map]
          exact Nat.le_trans (show _ ≤ 2001 from Nat.add_le_add (Nat.add_le_add (show _ ≤ 1000 by omega) (show 1 ≤ 1 by decide)) (show _ ≤ 1000 by omega)) (by decide)
        have S38 := ((S5.trans S6).trans S7).trans S8
        refine kP' _ _ ((S12.trans S3).trans S38) ?_
        have hp8 := hp3.same S38
        have hb8 := ((S12.trans S3).trans S38) _ _ hbb
        rw [← List.map_take, ← List.map_drop] at h8
        refine .tup h8 ?_
        unfold exD
        rw [List.map_append, List.map_append, ← List.map_take, ← List.map_drop]
        exact dvAll_app (dvAll_app (dvAll_heap fun p hp => hp8.row p (List.mem_of_mem_take hp)) (.cons (.tup hb8 (.cons (.int _) (.cons (.int _) .nil))) .nil)) (dvAll_heap fun p hp => hp8.row p (List.mem_of_mem_drop hp))
theorem ok_swap {f fh fp : Addr} {fd fdh fdp : FuncData} (A0 : Df K mg "swap" s_swap f fd P_swap) (d_checked_heap : Df K mg "checked_heap" s_checked_heap fh fdh P_checked_heap) (d_place_of : Df K mg "_place_of" s_place_of fp fdp P_place_of)
    (G_checked_heap : FnOk P w K mg base (L2.CX P w) 7 fh fdh P_checked_heap (spHeap CM CI)) (G_place_of : FnOk P w K mg base (L2.CX P w) 7 fp fdp P_place_of (spPlace CR)) (T : Txt mg) (TR : PySem.ErrX.ErrTxt K mg "Refused" "Refused.__init__" CR fR) :
    FnOk P w K mg base (L2.CX P w) 8 f fd P_swap (spSwap CM CI CR) := by
  refine A0.F.okX sc_swap (fun vs H Q E h => ?_) (fun cdv Ar outer s H vs Q E hr h => ?_)
  · obtain ⟨m, x, y, dx, dy, A, us, rfl, _⟩ := h
    rfl
  · obtain ⟨m, x, y, dx, dy, A, us, rfl, M, Dx, Dy, hz, kR⟩ := h
    have tk : Takes (cxOf (L2.CX P w) P w K mg base N_swap "swap" (defScope s_swap) f cdv Ar outer s H E) (fun cls d _ H => E cls d H) := takes_of rfl rfl rfl rfl
    refine ⟨_, (pss_cons (ps_set (i := 1) sc_swap.nd rfl (Or.inl rfl) (pe_callS G_checked_heap hr rfl d_checked_heap.g d_checked_heap.F.kp d_checked_heap.b (fun σ => passAt tk σ) (pa_cons (pv 0) (pa_cons (pv 1) pa_nil))))
    (pss_cons (ps_set (i := 3) sc_swap.nd rfl (Or.inl rfl) (pe_callS G_place_of hr rfl d_place_of.g d_place_of.F.kp d_place_of.b (fun σ => passAt tk σ) (pa_cons (pv 1) (pa_cons (pv 2) pa_nil))))
    (pss_cons (ps_if (pt_cmpR op_eq (pv 3) (pe_op op_sub (pe_callB call_len_seq (by rfl) T.len PySem.boot_len (pa_cons (pv 1) pa_nil)) pe_int) (nomark _)) (pss_one (ps_raiseLow rfl TR hr tk (pa_cons pe_int pa_nil) (by rfl))) pss_nil)
    (pss_cons (ps_asg (pe_slice sl_tupA (pv 1) (po_some (pv 3)) (po_some (pe_op op_add (pv 3) pe_int))) (pg_tup rfl (pgs_cons (pg_tup rfl (pgs_cons (pg_name (i := 4) sc_swap.nd rfl (Or.inl rfl)) (pgs_cons (pg_name (i := 5) sc_swap.nd rfl (Or.inl rfl)) pgs_nil))) (pgs_cons (pg_tup rfl (pgs_cons (pg_name (i := 6) sc_swap.nd rfl (Or.inl rfl)) (pgs_cons (pg_name (i := 7) sc_swap.nd rfl (Or.inl rfl)) pgs_nil))) pgs_nil))))
    (pss_one (ps_ret (pe_op op_catA (pe_op op_catA (pe_slice sl_tupA (pv 1) po_none (po_some (pv 3))) (pe_tup (pa_cons (pe_tup (pa_cons (pv 4) (pa_cons (pv 7) pa_nil))) (pa_cons (pe_tup (pa_cons (pv 6) (pa_cons (pv 5) pa_nil))) pa_nil)))) (pe_slice sl_tupA (pv 1) (po_some (pe_op op_add (pv 3) pe_int)) po_none)))))))), ?_⟩
    refine ⟨_, rfl, _, rfl, m, x, dx, A, us, rfl, M, Dx, hz, ?_⟩
    cases e : heapRes A dx with
    | some k =>
      rw [e] at kR
      exact kR
    | none =>
      rw [e] at kR
      intro H1 qh ps S1 hp hpm
      have kP := kR (ps.map (·.2)) hp.srt hpm
      have hl : ps.length ≤ 1000 := by
        have := hpm.length_eq
        rw [List.length_map, List.length_map] at this
        omega
      refine ⟨_, rfl, _, rfl, qh, y, dy, ps, rfl, hp, hl, Dy.same S1, ?_⟩
      cases e2 : plRes (ps.map (·.2)) dy with
      | none =>
        rw [e2] at kP
        exact kP.go S1
      | some j =>
        rw [e2] at kP
        have hj := plRes_lt e2
        rw [List.length_map] at hj
        intro H2 S2
        have hp2 := hp.same S2
        have S12 := S1.trans S2
        refine ⟨_, rfl, _, rfl, qh, _, rfl, .inr (SqT.of hp2.top), _, _, rfl, rfl, rfl, _, rfl, ?_⟩
        by_cases hj1 : j + 1 = ps.length
        · rw [decide_eq_true (show V.int (j : Int) = V.int (((ps.map fun p => V.ref p.1).length : Int) - 1) by rw [List.length_map, ← hj1]; exact congrArg V.int (by omega))]
          have kP' : if j + 1 = (ps.map (·.2)).length then Err E CR H 0 else ∀ H' v, Same H H' → Dv H' v (heapP (swD (ps.map (·.2)) j)) → Q v H' := kP
          rw [if_pos (by rw [List.length_map]; exact hj1)] at kP'
          exact iteT ⟨_, rfl, fun p hp' => kP' _ p S12 hp'⟩
        · have kP' : if j + 1 = (ps.map (·.2)).length then Err E CR H 0 else ∀ H' v, Same H H' → Dv H' v (heapP (swD (ps.map (·.2)) j)) → Q v H' := kP
          rw [if_neg (by rw [List.length_map]; exact hj1)] at kP'
          rw [decide_eq_false (show ¬ V.int (j : Int) = V.int (((ps.map fun p => V.ref p.1).length : Int) - 1) from fun e => by
            injection e with e
            rw [List.length_map] at e
            omega)]
          obtain ⟨p0, h0⟩ : ∃ p, ps[j]? = some p := ⟨_, List.getElem?_eq_getElem hj⟩
          obtain ⟨p1, h1⟩ : ∃ p, ps[j + 1]? = some p := ⟨_, List.getElem?_eq_getElem (show j + 1 < ps.length by omega)⟩
          have g0 : (ps.map (·.2)).getD j (0, 0) = p0.2 := by
            rw [List.getD_eq_getElem?_getD, List.getElem?_map, h0] <;> rfl
          have g1 : (ps.map (·.2)).getD (j + 1) (0, 0) = p1.2 := by
            rw [List.getD_eq_getElem?_getD, List.getElem?_map, h1] <;> rfl
          have et : ((ps.map fun p => V.ref p.1).drop j).take 2 = [V.ref p0.1, V.ref p1.1] := by
            obtain ⟨hx, rfl⟩ := List.getElem?_eq_some_iff.mp h0
            obtain ⟨hy, rfl⟩ := List.getElem?_eq_some_iff.mp h1
            rw [← List.map_drop, List.drop_eq_getElem_cons hj, List.drop_eq_getElem_cons hy]
            rfl
          refine iteF ⟨_, rfl, _, rfl, _, rfl, _, rfl, _, _, rfl, rfl, _, rfl, slA hp2.top fun H3 a3 S3 h3 => ?_⟩
          rw [show ((j : Int) + 2) = ((j + 2 : Nat) : Int) by omega, cut_mid (by rw [List.length_map]; omega) (by omega), show j + 2 - j = 2 by omega, et] at h3
          have hp3 := hp2.same S3
          have m0 := mem_of_get h0
          have m1 := mem_of_get h1
          refine ⟨a3, _, rfl, SqT.of h3, rfl, _, _, rfl, p0.1, _, rfl, SqT.of (hp3.row p0 m0), rfl, _, _, rfl, _, _, rfl, rfl, _, _, rfl, p1.1, _, rfl, SqT.of (hp3.row p1 m1), rfl, _, _, rfl, _, _, rfl, rfl, rfl, ?_⟩
          refine ⟨_, rfl, _, rfl, _, rfl, slA hp3.top fun H4 a4 S4 h4 => ?_⟩
          rw [ctTo] at h4
          refine ⟨_, rfl, _, rfl, by show 2 ≤ sizeLine; decide, fun b0 hb0 => ⟨_, rfl, _, rfl, by show 2 ≤ sizeLine; decide, fun b1 hb1 => ⟨by show 2 ≤ sizeLine; decide, fun a5 h5 => ?_⟩⟩⟩
          have S5 := S4.trans ((Same.new (o := HO.tup [V.int p0.2.1, V.int p1.2.2]) hb0).trans ((Same.new (o := HO.tup [V.int p1.2.1, V.int p0.2.2]) hb1).trans (Same.new (o := HO.tup [V.ref b0, V.ref b1]) h5)))
          refine catA (nk (nk (nk h4 hb0) hb1) h5) upd_same ?_ fun H6 a6 S6 h6 => ⟨_, rfl, _, rfl, _, _, rfl, rfl, _, rfl, noPart (slA (hp3.same (S5.trans S6)).top fun H7 a7 S7 h7 => ?_)⟩
          · rw [List.length_take, List.length_map]
            exact Nat.le_trans (show _ ≤ 2000 from Nat.add_le_add (show _ ≤ 1000 by omega) (show 2 ≤ 1000 by decide)) (by decide)
          rw [show ((j : Int) + 2) = ((j + 2 : Nat) : Int) by omega, ctFrom] at h7
          refine catA (S7 _ _ h6) h7 ?_ fun H8 a8 S8 h8 => ?_
          · rw [List.length_append, List.length_take, List.length_drop, List.length_map]
            exact Nat.le_trans (show _ ≤ 2002 from Nat.add_le_add (Nat.add_le_add (show _ ≤ 1000 by omega) (show 2 ≤ 2 by decide)) (show _ ≤ 1000 by omega)) (by decide)
          have S38 := ((S5.trans S6).trans S7).trans S8
          refine kP' _ _ (((S1.trans S2).trans S3).trans S38) ?_
          have hp8 := hp3.same S38
          have S68 := (S6.trans S7).trans S8
          have hb08 := S68 _ _ (nk (nk (upd_same (H := H4) (a := b0) (o := HO.tup [V.int p0.2.1, V.int p1.2.2])) hb1) h5)
          have hb18 := S68 _ _ (nk (upd_same (a := b1) (o := HO.tup [V.int p1.2.1, V.int p0.2.2])) h5)
          rw [← List.map_take, ← List.map_drop] at h8
          refine .tup h8 ?_
          unfold swD
          rw [List.map_append, List.map_append, ← List.map_take, ← List.map_drop, g0, g1]
          exact dvAll_app (dvAll_app (dvAll_heap fun p hp => hp8.row p (List.mem_of_mem_take hp)) (.cons (.tup hb08 (.cons (.int _) (.cons (.int _) .nil))) (.cons (.tup hb18 (.cons (.int _) (.cons (.int _) .nil))) .nil))) (dvAll_heap fun p hp => hp8.row p (List.mem_of_mem_drop hp))
end
end Lk

set_option Elab.async false
set_option linter.all false
set_option maxRecDepth 100000
set_option maxHeartbeats 4000000
namespace Lk
open PySem L2
abbrev s_law_heap : Stmt := top 32
abbrev N_law_heap : List Str := ["deal", "commands", "many", "time", "found", "turn"]
abbrev P_law_heap : List Str := ["deal", "commands", "many"]
theorem sc_law_heap : FnScope N_law_heap P_law_heap (defScope s_law_heap) := ⟨rfl, rfl, rfl, by decide +kernel, rfl, by decide +kernel, by decide +kernel⟩
/-- a drawn heap -/
def spLHeap : Sp := fun vs H Q _ => ∃ (d l : Addr) (A n : Int), vs = [.ref d, .int A, .int n] ∧ 0 < A ∧ A ≤ 1000 ∧ 0 ≤ n ∧ n ≤ 1000 ∧ DealAt H d l ∧
  ∀ (H' : Hp) (q : Addr) (ps : List (Addr × Int × Int)), DealAt H' d l → SB d l H H' → HeapAt H' q ps → H q = none → (∀ p ∈ ps, H p.1 = none) → (ps.length : Int) = n → (∀ p ∈ ps, (0 ≤ p.2.1 ∧ p.2.1 < 10000) ∧ 0 ≤ p.2.2 ∧ p.2.2 < A) → Q (.ref q) H'
section
variable {P : Program} {w : World} {K : PySem.W.Frag} {mg : Str → Option Value} {base : Heap}
theorem ok_lheap {f fa : Addr} {fd fda : FuncData} (A0 : Df K mg "_law_heap" s_law_heap f fd P_law_heap) (d_law_any : Df K mg "_law_any" s_law_any fa fda P_law_any) (T : Txt mg) : FnOk P w K mg base CX0 2 f fd P_law_heap spLHeap := by
  have G_law_any : FnOk P w K mg base CX0 1 fa fda P_law_any spAny := ok_any d_law_any T
  refine A0.F.ok sc_law_heap (fun vs H Q E h => ?_) (fun cdv Ar outer s H vs Q E hr h => ?_)
  · obtain ⟨d, l, A, n, rfl, _⟩ := h
    rfl
  · obtain ⟨d, l, A, n, rfl, a0, a1, n0, n1, D, k⟩ := h
    refine ⟨_, (pss_cons (ps_par (i := 3) (j := 4) rfl sc_law_heap.nd rfl rfl (by decide) rfl rfl (pa_cons (pe_call G_law_any (hr.mono (by decide)) rfl d_law_any.g d_law_any.F.kp d_law_any.b .nil pass0 (pa_cons (pv 0) (pa_cons pe_int pa_nil))) (pa_cons (pe_lst pa_nil) pa_nil)) rfl)
    (pss_cons (ps_for PassesOwn.never rfl (pi_range1 rfl T.range (pa_cons (pv 2) pa_nil)) (pg_name (i := 5) sc_law_heap.nd rfl (Or.inl rfl))
      (pss_cons (ps_expr (pe_bm PySem.F.plainAttrs_list PySem.F.slot_list_append PySem.F.type_list_append mt_append (pv 4) (pa_cons (pe_tup (pa_cons (pv 3) (pa_cons (pe_call G_law_any (hr.mono (by decide)) rfl d_law_any.g d_law_any.F.kp d_law_any.b .nil pass0 (pa_cons (pv 0) (pa_cons (pv 1) pa_nil))) pa_nil))) pa_nil)))
      (pss_one (ps_set (i := 3) sc_law_heap.nd rfl (Or.inl rfl) (pe_op op_add (pe_op op_add (pv 3) pe_int) (pe_call G_law_any (hr.mono (by decide)) rfl d_law_any.g d_law_any.F.kp d_law_any.b .nil pass0 (pa_cons (pv 0) (pa_cons pe_int pa_nil))))))))
    (pss_one (ps_ret (pe_tupleOf (by rfl) T.tuple (pv 4)))))), ?_⟩
    refine ⟨_, rfl, d, l, 4, rfl, by decide, by decide, D, fun H1 t0 D1 S1 t00 t01 => ⟨Nat.zero_le _, fun p0 hp0 => ⟨_, _, rfl, ?_⟩⟩⟩
    have np0 : ¬ dl d l p0 := D1.free hp0
    have hp00 : H p0 = none := S1.kp.free np0 hp0
    refine ⟨_, rfl, n, rfl, by omega, by omega, ?_⟩
    refine for_range (lo := 0) (n := n.toNat) (fun i σ H3 => ∃ (t : Int) (ps : List (Addr × Int × Int)) (v : Option V), σ = [some (.ref d), some (.int A), some (.int n), some (.int t), some (.ref p0), v] ∧ DealAt H3 d l ∧ SB d l H H3 ∧ H3 p0 = some (.lst (ps.map fun p => V.ref p.1)) ∧ (∀ p ∈ ps, H p.1 = none ∧ p.1 ≠ p0 ∧ H3 p.1 = some (.tup [.int p.2.1, .int p.2.2])) ∧
        ps.length = i ∧ (∀ p ∈ ps, (0 ≤ p.2.1 ∧ p.2.1 < t) ∧ 0 ≤ p.2.2 ∧ p.2.2 < A) ∧ (ps.map (·.2)).Pairwise (fun x y => x.1 < y.1) ∧ 0 ≤ t ∧ t ≤ 4 + 4 * (i : Int)) ⟨t0, [], none, rfl, D1.new hp0, S1.trans (SB.new hp0), upd_same, (fun p hp => by cases hp), rfl, (fun p hp => by cases hp), List.Pairwise.nil, t00, by omega⟩ ?_ ?_
    · rintro i σ H3 hi ⟨t, ps, v, rfl, D3, S3, hp3, hrow, hl, hz, hso, tt0, tt1⟩
      refine ⟨_, rfl, .inl ⟨rfl, _, SqL.of hp3⟩, _, rfl, _, rfl, _, rfl, d, l, A, rfl, a0, by omega, D3, fun H4 c D4 S4 c0 c1 => ⟨by show 2 ≤ sizeLine; decide, fun q hq => ?_⟩⟩
      have hp4 := S4.kp.get np0 hp3
      have nq : ¬ dl d l q := D4.free hq
      have hq0 : H q = none := (S3.trans S4).kp.free nq hq
      have hqp : q ≠ p0 := fun e => by
        rw [e, hp4] at hq
        cases hq
      refine ⟨p0, _, _, rfl, rfl, nk hp4 hq, ?_, ?_⟩
      · rw [List.length_map, hl]
        exact Nat.lt_of_lt_of_le (show i < 1001 by omega) (by decide)
      refine ⟨_, rfl, _, _, rfl, rfl, _, rfl, d, l, 3, rfl, by decide, by decide, (D4.new (o := HO.tup [V.int t, V.int c]) hq).upd (o := HO.lst ((ps.map fun p => V.ref p.1) ++ [V.ref q])) np0, fun H6 r D6 S6 r0 r1 => ⟨_, _, rfl, rfl, ?_⟩⟩
      have S5 : SB d l H (upd (upd H4 q (HO.tup [V.int t, V.int c])) p0 (HO.lst ((ps.map fun p => V.ref p.1) ++ [V.ref q]))) := sb_upd ((S3.trans S4).trans (SB.new hq)) hp00
      refine ⟨t + 1 + r, ps ++ [(q, t, c)], _, rfl, D6, S5.trans S6, ?_, fun p hp => ?_, by rw [List.length_append, hl] <;> rfl, fun p hp => ?_, ?_, by omega, by omega⟩
      · rw [S6.kp.get np0 upd_same, List.map_append]
        rfl
      · rcases List.mem_append.mp hp with h | h
        · obtain ⟨h1, h2, h3⟩ := hrow p h
          have np : ¬ dl d l p.1 := D.free h1
          exact ⟨h1, h2, S6.kp.get np ((upd_ne h2).trans (nk (S4.kp.get np h3) hq))⟩
        · rw [List.mem_singleton.mp h]
          exact ⟨hq0, hqp, S6.kp.get nq ((upd_ne hqp).trans upd_same)⟩
      · rcases List.mem_append.mp hp with h | h
        · obtain ⟨h1, h2⟩ := hz p h
          exact ⟨⟨h1.1, by omega⟩, h2⟩
        · rw [List.mem_singleton.mp h]
          exact ⟨⟨tt0, by show t < t + 1 + r; omega⟩, c0, c1⟩
      · rw [List.map_append]
        refine List.pairwise_append.mpr ⟨hso, List.pairwise_singleton _ _, fun x hx y hy => ?_⟩
        obtain ⟨p, hp, rfl⟩ := List.mem_map.mp hx
        have e : y = (t, c) := by simpa using hy
        rw [e]
        exact (hz p hp).1.2
    · rintro σ H3 ⟨t, ps, v, rfl, D3, S3, hp3, hrow, hl, hz, hso, tt0, tt1⟩
      refine ⟨_, rfl, .inl ⟨p0, _, rfl, SqL.of hp3, fun q hq => ?_⟩⟩
      refine k _ q ps (D3.new hq) (S3.trans (SB.new hq)) ⟨upd_same, fun p hp => nk (hrow p hp).2.2 hq, hso⟩ (S3.kp.free (D3.free hq) hq) (fun p hp => (hrow p hp).1) (by omega) fun p hp => ?_
      obtain ⟨h1, h2⟩ := hz p hp
      exact ⟨⟨h1.1, by omega⟩, h2⟩
end
end Lk

set_option Elab.async false
set_option linter.all false
set_option maxRecDepth 100000
set_option maxHeartbeats 4000000
namespace Lk
open PySem L2
abbrev s_law_asked : Stmt := top 33
abbrev N_law_asked : List Str := ["machine", "form", "heap", "value", "wrong"]
abbrev P_law_asked : List Str := ["machine", "form", "heap", "value"]
theorem sc_law_asked : FnScope N_law_asked P_law_asked (defScope s_law_asked) := ⟨rfl, rfl, rfl, by decide +kernel, rfl, by decide +kernel, by decide +kernel⟩
def slipP (k : Int) : PyData := .tuple [.str "slip", .int k]
def refuP (k : Int) : PyData := .tuple [.str "refused", .int k]
theorem dp_heap {K : PySem.W.Frag} {H : Hp} : ∀ {ps : List (Addr × Int × Int)}, (∀ p ∈ ps, H p.1 = some (.tup [.int p.2.1, .int p.2.2])) → DpAll K H (ps.map fun p => V.ref p.1) ((ps.map (·.2)).map pairP)
  | [], _ => .nil
  | p :: ps, h => .cons (.tup (SqT.of (h p List.mem_cons_self)) (.cons (.int _) (.cons (.int _) .nil))) (dp_heap fun q hq => h q (List.mem_cons_of_mem _ hq))
theorem HeapAt.dp {K : PySem.W.Frag} {H : Hp} {q : Addr} {ps : List (Addr × Int × Int)} (x : HeapAt H q ps) : Dp K H (.ref q) (heapP (ps.map (·.2))) := .tup (SqT.of x.top) (dp_heap x.row)
/-- what is told of the slips rs if no error goes ahead -/
def ask0 (A : Int) (rs : List (Int × Int)) (dy : PyData) : PyData := if isP A dy = false then slipP 0 else match atT rs (pairD dy).1 with
  | none => refuP 0
  | some j => heapP (exD rs j (pairD dy))
def ask1 (rs : List (Int × Int)) (dy : PyData) : PyData := match plRes rs dy with
  | none => refuP 0
  | some j => if j + 1 = rs.length then refuP 0 else heapP (swD rs j)
def ask2 (rs : List (Int × Int)) (dy : PyData) : PyData := match plRes rs dy with
  | none => refuP 0
  | some j => heapP (stD rs j)
def askD (A form : Int) (rs : List (Int × Int)) (dx dy : PyData) : PyData := match heapRes A dx with
  | some k => slipP k
  | none => if form = 0 then ask0 A rs dy else if form = 1 then ask1 rs dy else ask2 rs dy
def spAsked (CM : Addr) : Sp := fun vs H Q _ => ∃ (m : Addr) (form : Int) (x y : V) (dx dy : PyData) (A : Int) (us : List (Addr × List Int)) (rs : List (Int × Int)), vs = [.ref m, .int form, x, y] ∧ MachAt CM H m A us ∧ Dv H x dx ∧ Dv H y dy ∧ (itemsD dx).length ≤ 1000 ∧ (heapRes A dx = none → Asc rs ∧ rs.Perm ((itemsD dx).map pairD)) ∧
  ∀ H' v, Same H H' → Dv H' v (askD A form rs dx dy) → Q v H'
/-- an ascending list is told by what it holds -/
theorem asc_perm : ∀ {rs qs : List (Int × Int)}, Asc rs → Asc qs → rs.Perm qs → rs = qs
  | [], qs, _, _, h => (List.Perm.eq_nil h.symm).symm
  | r :: rs, [], _, _, h => absurd h.length_eq (by simp)
  | r :: rs, q :: qs, h1, h2, h => by
    obtain ⟨a1, a2⟩ := List.pairwise_cons.mp h1
    obtain ⟨b1, b2⟩ := List.pairwise_cons.mp h2
    have e : r = q := by
      rcases List.mem_cons.mp (h.mem_iff.mp (List.mem_cons_self (a := r) (l := rs))) with z | z
      · exact z
      · rcases List.mem_cons.mp (h.mem_iff.mpr (List.mem_cons_self (a := q) (l := qs))) with y | y
        · exact y.symm
        · have := b1 r z
          have := a1 q y
          omega
    subst e
    rw [asc_perm a2 b2 h.cons_inv]
abbrev kRev : List V → List V → List V := fun vs zs => vs ++ zs.reverse
abbrev uRev : List Value → List Value → List Value := fun us ws => us ++ ws.reverse
section
variable {P : Program} {w : World} {K : PySem.W.Frag} {mg : Str → Option Value} {base : Heap} {CM CI CR fCI fR : Addr}
theorem ok_asked {f fe fw fs : Addr} {fd fde fdw fds : FuncData} (A0 : Df K mg "_law_asked" s_law_asked f fd P_law_asked) (d_e : Df K mg "exchange" s_exchange fe fde P_exchange) (d_w : Df K mg "swap" s_swap fw fdw P_swap) (d_s : Df K mg "strike" s_strike fs fds P_strike)
    (k_e : KBn K fde P_exchange 0 ["slip", "heap", "machine"] uRev kRev) (k_w : KBn K fdw P_swap 0 ["time", "heap", "machine"] uRev kRev) (k_s : KBn K fds P_strike 0 ["time", "heap", "machine"] uRev kRev)
    (G_e : FnOk P w K mg base (L2.CX P w) 8 fe fde P_exchange (spExch CM CI CR)) (G_w : FnOk P w K mg base (L2.CX P w) 8 fw fdw P_swap (spSwap CM CI CR)) (G_s : FnOk P w K mg base (L2.CX P w) 8 fs fds P_strike (spStrike CM CI CR))
    (TI : PySem.ErrX.ErrTxt K mg "InvalidSlip" "InvalidSlip.__init__" CI fCI) (TR : PySem.ErrX.ErrTxt K mg "Refused" "Refused.__init__" CR fR) (ne : PySem.W.exmOne K (.ref CR) (.ref CI) = some false) : FnOk P w K mg base CX0 9 f fd P_law_asked (spAsked CM) := by
  refine A0.F.ok sc_law_asked (fun vs H Q E h => ?_) (fun cdv Ar outer s H vs Q E hr h => ?_)
  · obtain ⟨m, form, x, y, dx, dy, A, us, rs, rfl, _⟩ := h
    rfl
  · obtain ⟨m, form, x, y, dx, dy, A, us, rs, rfl, M, Dx, Dy, hz, hrs, k⟩ := h
    refine ⟨_, pss_one (ps_try_all (i := 4) (n := "wrong") (tb := fun W => tSeq (tIfS (tTest (tOp rEq (tVar 1) (tC (.int 0)))) (tSeq (tRet (tKw (spExch CM CI CR) kRev 3 (WE W) (tCons (tVar 3) (tCons (tVar 2) (tCons (tVar 0) tNil))))) tNext) tNext)
          (tSeq (tRet (tIf (tTest (tOp rEq (tVar 1) (tC (.int 1)))) (tKw (spSwap CM CI CR) kRev 3 (WE W) (tCons (tVar 3) (tCons (tVar 2) (tCons (tVar 0) tNil)))) (tKw (spStrike CM CI CR) kRev 3 (WE W) (tCons (tVar 3) (tCons (tVar 2) (tCons (tVar 0) tNil)))))) tNext))
        (Wo := fun _ _ _ _ => False) (l := [(.ref CI, fun a cls d => tSeq (tRet (tTup (tCons (tC (.str "slip")) (tCons (tByLow CI a cls d (tVar 4)) tNil)))) tNext), (.ref CR, fun a cls d => tSeq (tRet (tTup (tCons (tC (.str "refused")) (tCons (tByLow CR a cls d (tVar 4)) tNil)))) tNext)]) rfl rfl sc_law_asked.nd rfl rfl takes0
        (fun W pn xe tk _ => pss_cons (ps_if (pt_cmpR op_eq (pv 1) pe_int (nomark _)) (pss_one (ps_ret (by exact (pe_kw (ks := ["slip", "heap", "machine"]) G_e hr rfl d_e.g d_e.F.kp k_e (fun σ => passAt tk σ) (by exact (pk_cons (pv 3) (pk_cons (pv 2) (pk_cons (pv 0) pk_nil)))))))) pss_nil)
          (pss_one (ps_ret (pe_ifExp (pt_cmpR op_eq (pv 1) pe_int (nomark _)) (by exact (pe_kw (ks := ["time", "heap", "machine"]) G_w hr rfl d_w.g d_w.F.kp k_w (fun σ => passAt tk σ) (by exact (pk_cons (pv 3) (pk_cons (pv 2) (pk_cons (pv 0) pk_nil))))))
            (by exact (pe_kw (ks := ["time", "heap", "machine"]) G_s hr rfl d_s.g d_s.F.kp k_s (fun σ => passAt tk σ) (by exact (pk_cons (pv 3) (pk_cons (pv 2) (pk_cons (pv 0) pk_nil))))))))))
        (.cons ⟨rfl, by decide, Or.inl TI.gC⟩ (fun a oe cls d pn hz hf => pss_one (ps_ret (pe_tup (pa_cons pe_str (pa_cons (pe_byLow TI hz hf (pv 4)) pa_nil)))))
          (.cons ⟨rfl, by decide, Or.inl TR.gC⟩ (fun a oe cls d pn hz hf => pss_one (ps_ret (pe_tup (pa_cons pe_str (pa_cons (pe_byLow TR hz hf (pv 4)) pa_nil))))) .nil))), ?_⟩
    have row : ∀ (z : Int), askD A form rs dx dy = slipP z → ∀ (H' : Hp) (q : Addr), Same H H' → H' q = none →
        wAll K 4 (fun _ _ _ _ => False) { nx := fun _ H' => Q .non H', rt := Q } [(.ref CI, fun a cls d => tSeq (tRet (tTup (tCons (tC (.str "slip")) (tCons (tByLow CI a cls d (tVar 4)) tNil)))) tNext), (.ref CR, fun a cls d => tSeq (tRet (tTup (tCons (tC (.str "refused")) (tCons (tByLow CR a cls d (tVar 4)) tNil)))) tNext)] (.ref CI) (some q)
          [some (.ref m), some (.int form), some x, some y, none] (upd H' q (.xd [(("at" : Str), .int z)])) := fun z e H' q S' hq =>
      ⟨true, TI.te, iteT fun a ha => ⟨_, rfl, rfl, rfl, q, .int z, rfl, upd_same, by show 2 ≤ sizeLine; decide, fun p hp => k _ _ ((S'.trans (Same.new hq)).trans (Same.new hp)) (by rw [e]; exact .tup upd_same (.cons (.str _) (.cons (.int _) .nil)))⟩⟩
    have ref : askD A form rs dx dy = refuP 0 → ∀ (H' : Hp) (q : Addr), Same H H' → H' q = none →
        wAll K 4 (fun _ _ _ _ => False) { nx := fun _ H' => Q .non H', rt := Q } [(.ref CI, fun a cls d => tSeq (tRet (tTup (tCons (tC (.str "slip")) (tCons (tByLow CI a cls d (tVar 4)) tNil)))) tNext), (.ref CR, fun a cls d => tSeq (tRet (tTup (tCons (tC (.str "refused")) (tCons (tByLow CR a cls d (tVar 4)) tNil)))) tNext)] (.ref CR) (some q)
          [some (.ref m), some (.int form), some x, some y, none] (upd H' q (.xd [(("at" : Str), .int 0)])) := fun e H' q S' hq =>
      ⟨false, ne, iteF ⟨true, TR.te, iteT fun a ha => ⟨_, rfl, rfl, rfl, q, .int 0, rfl, upd_same, by show 2 ≤ sizeLine; decide, fun p hp => k _ _ ((S'.trans (Same.new hq)).trans (Same.new hp)) (by rw [e]; exact .tup upd_same (.cons (.str _) (.cons (.int _) .nil)))⟩⟩⟩
    refine ⟨_, rfl, rfl, _, rfl, ?_⟩
    by_cases f0 : form = 0
    · rw [decide_eq_true (show V.int form = V.int 0 by rw [f0])]
      refine iteT ⟨_, rfl, _, rfl, _, rfl, rfl, m, x, y, dx, dy, A, us, rfl, M, Dx, Dy, hz, ?_⟩
      cases e : heapRes A dx with
      | some z => exact row z (by unfold askD; rw [e])
      | none =>
        obtain ⟨ha, hp⟩ := hrs e
        have e0 : askD A form rs dx dy = ask0 A rs dy := by
          unfold askD
          rw [e]
          exact if_pos f0
        refine ⟨fun hb => row 0 (by rw [e0]; exact if_pos hb), fun hb qs hq1 hq2 => ?_⟩
        obtain rfl := asc_perm ha hq1 (hp.trans hq2.symm)
        have e1 : ask0 A rs dy = match atT rs (pairD dy).1 with
            | none => refuP 0
            | some j => heapP (exD rs j (pairD dy)) := if_neg (by rw [hb]; decide)
        cases e2 : atT rs (pairD dy).1 with
        | none => exact ref (by rw [e0, e1, e2])
        | some j => exact fun H' v S' D' => k H' v S' (by rw [e0, e1, e2]; exact D')
    · rw [decide_eq_false (show ¬ V.int form = V.int 0 from fun e => f0 (by injection e))]
      refine iteF ⟨_, rfl, rfl, _, rfl, ?_⟩
      by_cases f1 : form = 1
      · rw [decide_eq_true (show V.int form = V.int 1 by rw [f1])]
        refine iteT ⟨_, rfl, _, rfl, _, rfl, rfl, m, x, y, dx, dy, A, us, rfl, M, Dx, Dy, hz, ?_⟩
        cases e : heapRes A dx with
        | some z => exact row z (by unfold askD; rw [e])
        | none =>
          obtain ⟨ha, hp⟩ := hrs e
          have e0 : askD A form rs dx dy = ask1 rs dy := by
            unfold askD
            rw [e]
            exact (if_neg f0).trans (if_pos f1)
          intro qs hq1 hq2
          obtain rfl := asc_perm ha hq1 (hp.trans hq2.symm)
          cases e2 : plRes rs dy with
          | none => exact ref (by rw [e0]; unfold ask1; rw [e2])
          | some j =>
            show if j + 1 = rs.length then _ else _
            by_cases hj : j + 1 = rs.length
            · rw [if_pos hj]
              exact ref (by rw [e0]; unfold ask1; rw [e2]; exact if_pos hj)
            · rw [if_neg hj]
              exact fun H' v S' D' => k H' v S' (by
                have e3 : ask1 rs dy = heapP (swD rs j) := by
                  unfold ask1
                  rw [e2]
                  exact if_neg hj
                rw [e0, e3]
                exact D')
      · rw [decide_eq_false (show ¬ V.int form = V.int 1 from fun e => f1 (by injection e))]
        refine iteF ⟨_, rfl, _, rfl, _, rfl, rfl, m, x, y, dx, dy, A, us, rfl, M, Dx, Dy, hz, ?_⟩
        cases e : heapRes A dx with
        | some z => exact row z (by unfold askD; rw [e])
        | none =>
          obtain ⟨ha, hp⟩ := hrs e
          have e0 : askD A form rs dx dy = ask2 rs dy := by
            unfold askD
            rw [e]
            exact (if_neg f0).trans (if_neg f1)
          intro qs hq1 hq2
          obtain rfl := asc_perm ha hq1 (hp.trans hq2.symm)
          cases e2 : plRes rs dy with
          | none => exact ref (by rw [e0]; unfold ask2; rw [e2])
          | some j => exact fun H' v S' D' => k H' v S' (by rw [e0]; unfold ask2; rw [e2]; exact D')
end
end Lk

set_option Elab.async false
set_option linter.all false
set_option maxRecDepth 100000
set_option maxHeartbeats 4000000
namespace Lk
open PySem L2
abbrev s_law_place : Stmt := top 34
abbrev N_law_place : List Str := ["heap", "time", "at"]
abbrev P_law_place : List Str := ["heap", "time"]
theorem sc_law_place : FnScope N_law_place P_law_place (defScope s_law_place) := ⟨rfl, rfl, rfl, by decide +kernel, rfl, by decide +kernel, by decide +kernel⟩
abbrev s_law_due : Stmt := top 35
abbrev N_law_due : List Str := ["form", "heap", "time", "command", "at", "some"]
abbrev P_law_due : List Str := ["form", "heap", "time", "command"]
theorem sc_law_due : FnScope N_law_due P_law_due (defScope s_law_due) := ⟨rfl, rfl, rfl, by decide +kernel, rfl, by decide +kernel, by decide +kernel⟩
def atV : Option Nat → V
  | none => .non
  | some j => .int (j : Int)
theorem ixNat {n j : Nat} (hj : j < n) : ixN n (j : Int) = some j := by
  unfold ixN
  rw [if_pos (by omega), if_pos (by omega), Int.toNat_natCast]
theorem dvAll_set {H : Hp} {v : V} {d : PyData} (h : Dv H v d) : ∀ {xs : List V} {ds : List PyData} {j : Nat}, DvAll H xs ds → DvAll H (xs.set j v) (ds.set j d)
  | _, _, _, .nil => .nil
  | _, _, 0, .cons _ t => .cons h t
  | _, _, j + 1, .cons a t => .cons a (dvAll_set h (j := j) t)
theorem dvAll_erase {H : Hp} : ∀ {xs : List V} {ds : List PyData} {j : Nat}, DvAll H xs ds → DvAll H (xs.eraseIdx j) (ds.eraseIdx j)
  | _, _, _, .nil => .nil
  | _, _, 0, .cons _ t => t
  | _, _, j + 1, .cons a t => .cons a (dvAll_erase (j := j) t)
theorem set1_ex {rs : List (Int × Int)} {j : Nat} {r : Int × Int} (h : j < rs.length) : (rs.map pairP).set j (pairP r) = (exD rs j r).map pairP := by
  rw [List.set_eq_take_append_cons_drop, if_pos (by rw [List.length_map]; exact h)]
  unfold exD
  rw [List.map_append, List.map_append, List.map_take, List.map_drop, List.append_assoc]
  rfl
theorem set2_sw {α : Type} {a b : α} : ∀ {rs : List α} {j : Nat}, j + 1 < rs.length → (rs.set j a).set (j + 1) b = rs.take j ++ [a, b] ++ rs.drop (j + 2)
  | _ :: _ :: _, 0, _ => rfl
  | r :: rs, j + 1, h => congrArg (r :: ·) (set2_sw (rs := rs) (j := j) (by rw [List.length_cons] at h; omega))
/-- what is due -/
def dueD (form : Int) (rs : List (Int × Int)) (t c : Int) : PyData := match atT rs t with
  | none => refuP 0
  | some j => if form = 1 then (if j + 1 = rs.length then refuP 0 else heapP (swD rs j)) else if form = 0 then heapP (exD rs j (t, c)) else heapP (stD rs j)
def spLPlace : Sp := fun vs H Q _ => ∃ (q : Addr) (t : Int) (ps : List (Addr × Int × Int)), vs = [.ref q, .int t] ∧ HeapAt H q ps ∧ ps.length ≤ 1000 ∧ Q (atV (atT (ps.map (·.2)) t)) H
def spLDue : Sp := fun vs H Q _ => ∃ (form : Int) (q : Addr) (t c : Int) (ps : List (Addr × Int × Int)), vs = [.int form, .ref q, .int t, .int c] ∧ 0 ≤ form ∧ form ≤ 2 ∧ HeapAt H q ps ∧ ps.length ≤ 1000 ∧ ∀ H' v, Same H H' → Dv H' v (dueD form (ps.map (·.2)) t c) → Q v H'
theorem atT_is : ∀ {rs : List (Int × Int)} {t : Int} {j : Nat} {r : Int × Int}, rs[j]? = some r → r.1 = t → (∀ (m : Nat) (q : Int × Int), m < j → rs[m]? = some q → q.1 ≠ t) → atT rs t = some j
  | r0 :: rs, t, 0, r, h, e, _ => by
    cases h
    exact if_pos e
  | r0 :: rs, t, j + 1, r, h, e, no => by
    show (if r0.1 = t then some 0 else (atT rs t).map (· + 1)) = _
    rw [if_neg (no 0 r0 (by omega) rfl), atT_is (rs := rs) (j := j) h e fun m q hm hq => no (m + 1) q (by omega) hq] <;> rfl
section
variable {P : Program} {w : World} {K : PySem.W.Frag} {mg : Str → Option Value} {base : Heap}
theorem ok_lplace {f : Addr} {fd : FuncData} (A0 : Df K mg "_law_place" s_law_place f fd P_law_place) (T : Txt mg) : FnOk P w K mg base CX0 1 f fd P_law_place spLPlace := by
  refine A0.F.ok sc_law_place (fun vs H Q E h => ?_) (fun cdv Ar outer s H vs Q E hr h => ?_)
  · obtain ⟨q, t, ps, rfl, _⟩ := h
    rfl
  · obtain ⟨q, t, ps, rfl, hp, hl, k⟩ := h
    refine ⟨_, (pss_cons (ps_for PassesOwn.never rfl (pi_range1 rfl T.range (pa_cons (pe_callB call_len_seq (by rfl) T.len PySem.boot_len (pa_cons (pv 0) pa_nil)) pa_nil)) (pg_name (i := 2) sc_law_place.nd rfl (Or.inl rfl))
      (pss_one (ps_if (pt_cmpR op_eq (pe_ix ix_tup (pe_ix ix_tup (pv 0) (pv 2) (fun _ _ => rfl)) pe_int (fun _ _ => rfl)) (pv 1) (nomark _)) (pss_one (ps_ret (pv 2))) pss_nil)))
    (pss_one (ps_ret pe_non))), ?_⟩
    have hL : (ps.map fun p => V.ref p.1).length = ps.length := List.length_map ..
    refine ⟨_, rfl, q, _, rfl, .inr (SqT.of hp.top), _, rfl, by omega, by rw [hL]; omega, ?_⟩
    refine for_range (lo := 0) (n := ((ps.map fun p => V.ref p.1).length : Int).toNat) (fun i σ H1 => H1 = H ∧ (∃ v : Option V, σ = [some (.ref q), some (.int t), v]) ∧ ∀ (m : Nat) (r : Int × Int), m < i → (ps.map (·.2))[m]? = some r → r.1 ≠ t) ⟨rfl, ⟨none, rfl⟩, fun m _ hm => absurd hm (Nat.not_lt_zero m)⟩ ?_ ?_
    · rintro i σ H1 hi ⟨rfl, ⟨v, rfl⟩, no⟩
      rw [Int.toNat_natCast, hL] at hi
      obtain ⟨p, h⟩ : ∃ p, ps[i]? = some p := ⟨_, List.getElem?_eq_getElem hi⟩
      have hr : (ps.map (·.2))[i]? = some p.2 := by
        rw [List.getElem?_map, h] <;> rfl
      refine ⟨_, rfl, _, rfl, q, _, _, V.ref p.1, rfl, rfl, SqT.of hp.top, atI_int (by omega) (by rw [show (0 + (i : Int)).toNat = i by omega, List.getElem?_map, h] <;> rfl), p.1, _, 0, V.int p.2.1, rfl, rfl, SqT.of (hp.row p (mem_of_get h)), rfl, _, rfl, rfl, _, rfl, ?_⟩
      by_cases e : p.2.1 = t
      · rw [decide_eq_true (show V.int p.2.1 = V.int t by rw [e])]
        rw [atT_is hr e no] at k
        refine iteT ⟨_, rfl, ?_⟩
        rw [show (0 + (i : Int)) = (i : Int) by omega]
        exact k
      · rw [decide_eq_false (show ¬ V.int p.2.1 = V.int t from fun q => e (by injection q))]
        refine iteF ⟨rfl, ⟨_, rfl⟩, fun m r hm hm2 => ?_⟩
        by_cases e2 : m = i
        · subst e2
          rw [hr] at hm2
          cases hm2
          exact e
        · exact no m r (by omega) hm2
    · rintro σ H1 ⟨rfl, ⟨v, rfl⟩, no⟩
      rw [Int.toNat_natCast, hL] at no
      have e : atT (ps.map (·.2)) t = none := atT_no fun hm => by
        obtain ⟨r, hr, e⟩ := List.mem_map.mp hm
        obtain ⟨m, hm1, hm2⟩ := List.getElem_of_mem hr
        rw [List.length_map] at hm1
        exact no m r hm1 (by rw [← hm2]; exact List.getElem?_eq_getElem _) e
      rw [e] at k
      exact k
end
end Lk

set_option Elab.async false
set_option linter.all false
set_option maxRecDepth 100000
set_option maxHeartbeats 4000000
namespace Lk
open PySem L2
theorem atT_lt {rs : List (Int × Int)} {t : Int} {j : Nat} (h : atT rs t = some j) : j < rs.length := by
  by_cases hm : t ∈ rs.map (·.1)
  · obtain ⟨i, r, h1, h2, _⟩ := atT_at hm
    rw [h] at h1
    cases h1
    exact (List.getElem?_eq_some_iff.mp h2).1
  · rw [atT_no hm] at h
    cases h
/-- a row of tuples stands where a list is changed -/
theorem dvAll_row {H H' : Hp} {b : Addr} : ∀ {ps : List (Addr × Int × Int)}, (∀ p ∈ ps, H p.1 = some (.tup [.int p.2.1, .int p.2.2])) → (∀ a o, H a = some o → a ≠ b → H' a = some o) → (∀ p ∈ ps, p.1 ≠ b) → DvAll H' (ps.map fun p => V.ref p.1) ((ps.map (·.2)).map pairP) := fun hr hk hn => dvAll_heap fun p hp => hk _ _ (hr p hp) (hn p hp)
section
variable {P : Program} {w : World} {K : PySem.W.Frag} {mg : Str → Option Value} {base : Heap}
theorem ok_ldue {f fp : Addr} {fd fdp : FuncData} (A0 : Df K mg "_law_due" s_law_due f fd P_law_due) (d_law_place : Df K mg "_law_place" s_law_place fp fdp P_law_place) (G_law_place : FnOk P w K mg base CX0 1 fp fdp P_law_place spLPlace) (T : Txt mg) : FnOk P w K mg base CX0 2 f fd P_law_due spLDue := by
  refine A0.F.ok sc_law_due (fun vs H Q E h => ?_) (fun cdv Ar outer s H vs Q E hr h => ?_)
  · obtain ⟨form, q, t, c, ps, rfl, _⟩ := h
    rfl
  · obtain ⟨form, q, t, c, ps, rfl, f0, f2, hp, hl, k⟩ := h
    refine ⟨_, (pss_cons (ps_par (i := 4) (j := 5) rfl sc_law_due.nd rfl rfl (by decide) rfl rfl (pa_cons (pe_call G_law_place (hr.mono (by decide)) rfl d_law_place.g d_law_place.F.kp d_law_place.b .nil pass0 (pa_cons (pv 1) (pa_cons (pv 2) pa_nil))) (pa_cons (pe_callTy call_list_of (by rfl) T.list (by decide +kernel) (pa_cons (pv 1) pa_nil)) pa_nil)) rfl)
    (pss_cons (ps_if (PW.pt (pw_or (pt_cmpR op_isN (pv 4) pe_non (nomark _)) (pw_or1 (PW.pt (pw_and (pt_cmpR op_eq (pv 0) pe_int (nomark _)) (pw_and1 (pt_cmpR op_eq (pe_op op_add (pv 4) pe_int) (pe_callB call_len_seq (by rfl) T.len PySem.boot_len (pa_cons (pv 1) pa_nil)) (nomark _)))))))) (pss_one (ps_ret (pe_tup (pa_cons pe_str (pa_cons pe_int pa_nil))))) pss_nil)
    (pss_cons (ps_if (pt_cmpR op_eq (pv 0) pe_int (nomark _)) (pss_one (ps_asg (pe_tup (pa_cons (pv 2) (pa_cons (pv 3) pa_nil))) (pg_sub (pv 5) (pv 4) set_list))) pss_nil)
    (pss_cons (ps_if (pt_cmpR op_eq (pv 0) pe_int (nomark _)) (pss_one (ps_asg (pe_tup (pa_cons (pe_tup (pa_cons (pe_ix ix_tup (pe_ix ix_tup (pv 1) (pv 4) (fun _ _ => rfl)) pe_int (fun _ _ => rfl)) (pa_cons (pe_ix ix_tup (pe_ix ix_tup (pv 1) (pe_op op_add (pv 4) pe_int) (fun _ _ => rfl)) pe_int (fun _ _ => rfl)) pa_nil))) (pa_cons (pe_tup (pa_cons (pe_ix ix_tup (pe_ix ix_tup (pv 1) (pe_op op_add (pv 4) pe_int) (fun _ _ => rfl)) pe_int (fun _ _ => rfl)) (pa_cons (pe_ix ix_tup (pe_ix ix_tup (pv 1) (pv 4) (fun _ _ => rfl)) pe_int (fun _ _ => rfl)) pa_nil))) pa_nil))) (pg_tup rfl (pgs_cons (pg_sub (pv 5) (pv 4) set_list) (pgs_cons (pg_sub (pv 5) (pe_op op_add (pv 4) pe_int) set_list) pgs_nil))))) pss_nil)
    (pss_cons (ps_if (pt_cmpR op_eq (pv 0) pe_int (nomark _)) (pss_one (ps_expr (pe_bm PySem.F.plainAttrs_list PySem.F.slot_list_pop PySem.F.type_list_pop mt_popAt (pv 5) (pa_cons (pv 4) pa_nil)))) pss_nil)
    (pss_one (ps_ret (pe_tupleOf (by rfl) T.tuple (pv 5))))))))), ?_⟩
    have hL : (ps.map fun p => V.ref p.1).length = ps.length := List.length_map ..
    have hLr : (ps.map (·.2)).length = ps.length := List.length_map ..
    refine ⟨_, rfl, _, rfl, q, t, ps, rfl, hp, hl, _, rfl, q, _, rfl, .inr (SqT.of hp.top), fun b hb => ⟨_, _, rfl, ?_⟩⟩
    have hp1 := hp.same (Same.new (o := HO.lst (ps.map fun p => V.ref p.1)) hb)
    have refu : ∀ H1, Same H H1 → dueD form (ps.map (·.2)) t c = refuP 0 → ∀ p, H1 p = none → Q (.ref p) (upd H1 p (.tup [.str "refused", .int 0])) := fun H1 S1 e p hp' => k _ _ (S1.trans (Same.new hp')) (by rw [e]; exact .tup upd_same (.cons (.str _) (.cons (.int _) .nil)))
    have Sb := Same.new (o := HO.lst (ps.map fun p => V.ref p.1)) hb
    cases e : atT (ps.map (·.2)) t with
    | none =>
      refine ⟨_, rfl, rfl, true, congrArg V.bl (decide_eq_true rfl), iteT (iteT ⟨by show 2 ≤ sizeLine; decide, fun p hp' => refu _ Sb (by unfold dueD; rw [e]) p hp'⟩)⟩
    | some j =>
      have hj : j < ps.length := by
        have h := atT_lt e
        rwa [hLr] at h
      have hj' : j < (ps.map fun p => V.ref p.1).length := by rw [hL]; exact hj
      refine ⟨_, rfl, rfl, false, congrArg V.bl (decide_eq_false (fun e => by cases e)), iteF ?_⟩
      obtain ⟨p0, h0⟩ : ∃ p, ps[j]? = some p := ⟨_, List.getElem?_eq_getElem hj⟩
      have m0 := mem_of_get h0
      have g0 : (ps.map (·.2)).getD j (0, 0) = p0.2 := by
        rw [List.getD_eq_getElem?_getD, List.getElem?_map, h0] <;> rfl
      have dAll : ∀ H1, Same (upd H b (HO.lst (ps.map fun p => V.ref p.1))) H1 → DvAll H1 (ps.map fun p => V.ref p.1) ((ps.map (·.2)).map pairP) := fun H1 S1 => dvAll_heap fun p hp' => S1 _ _ (hp1.row p hp')
      have fin : ∀ (H1 : Hp) (xs : List V) (ds : List (Int × Int)), Same H H1 → H1 b = some (.lst xs) → DvAll H1 xs (ds.map pairP) → dueD form (ps.map (·.2)) t c = heapP ds → kTup K (.ref b) H1 Q := fun H1 xs ds S1 h1 D1 ed => .inl ⟨b, _, rfl, SqL.of h1, fun z hz => k _ _ (S1.trans (Same.new hz)) (by rw [ed]; exact .tup upd_same (DvAll.same (Same.new hz) D1))⟩
      have nb : ∀ p ∈ ps, p.1 ≠ b := fun p hp' e => by
        have h := hp.row p hp'
        rw [e, hb] at h
        cases h
      have e01 : (decide (V.int form = V.int 1)) = decide (form = 1) := by
        by_cases h : form = 1
        · rw [h, decide_eq_true rfl, decide_eq_true rfl]
        · rw [decide_eq_false h, decide_eq_false (fun q => h (by injection q))]
      by_cases f1 : form = 1
      · subst f1
        refine ⟨_, rfl, rfl, true, congrArg V.bl (decide_eq_true rfl), iteT ?_⟩
        refine ⟨_, rfl, _, _, rfl, rfl, _, rfl, q, _, rfl, .inr (SqT.of hp1.top), rfl, ?_⟩
        by_cases hj1 : j + 1 = ps.length
        · refine ⟨true, congrArg V.bl (decide_eq_true (show V.int ((j : Int) + 1) = V.int (((ps.map fun p => V.ref p.1).length : Nat) : Int) by rw [hL, ← hj1] <;> rfl)), iteT ?_⟩
          exact ⟨by show 2 ≤ sizeLine; decide, fun p hp' => refu _ Sb (by
            unfold dueD
            rw [e]
            show (if (1 : Int) = 1 then (if j + 1 = (ps.map (·.2)).length then refuP 0 else heapP (swD (ps.map (·.2)) j)) else _) = _
            rw [if_pos rfl, if_pos (by rw [hLr]; exact hj1)]) p hp'⟩
        · refine ⟨false, congrArg V.bl (decide_eq_false (fun q => hj1 (by
            injection q with q
            rw [hL] at q
            omega))), iteF ?_⟩
          have ed : dueD 1 (ps.map (·.2)) t c = heapP (swD (ps.map (·.2)) j) := by
            unfold dueD
            rw [e]
            show (if (1 : Int) = 1 then (if j + 1 = (ps.map (·.2)).length then refuP 0 else heapP (swD (ps.map (·.2)) j)) else _) = _
            rw [if_pos rfl, if_neg (by rw [hLr]; exact hj1)]
          obtain ⟨p1, h1⟩ : ∃ p, ps[j + 1]? = some p := ⟨_, List.getElem?_eq_getElem (show j + 1 < ps.length by omega)⟩
          have m1 := mem_of_get h1
          have g1 : (ps.map (·.2)).getD (j + 1) (0, 0) = p1.2 := by
            rw [List.getD_eq_getElem?_getD, List.getElem?_map, h1] <;> rfl
          refine ⟨_, rfl, rfl, false, congrArg V.bl (decide_eq_false (by decide)), iteF ?_⟩
          refine ⟨_, rfl, rfl, true, congrArg V.bl (decide_eq_true rfl), iteT ?_⟩
          have hp2 := hp1
          have at0 : atI (ps.map fun p => V.ref p.1) (j : Int) = some (V.ref p0.1) := atI_int (by omega) (by rw [Int.toNat_natCast, List.getElem?_map, h0] <;> rfl)
          have at1 : atI (ps.map fun p => V.ref p.1) ((j : Int) + 1) = some (V.ref p1.1) := atI_int (by omega) (by rw [show ((j : Int) + 1).toNat = j + 1 by omega, List.getElem?_map, h1] <;> rfl)
          refine ⟨_, rfl, _, rfl, q, _, _, _, rfl, rfl, SqT.of hp1.top, at0, p0.1, _, 0, V.int p0.2.1, rfl, rfl, SqT.of (hp1.row p0 m0), rfl, ?_⟩
          refine ⟨_, rfl, _, rfl, _, _, rfl, rfl, q, _, _, _, rfl, rfl, SqT.of hp1.top, at1, p1.1, _, 1, V.int p1.2.2, rfl, rfl, SqT.of (hp1.row p1 m1), rfl, by show 2 ≤ sizeLine; decide, fun b0 hb0 => ?_⟩
          have hp3 := hp1.same (Same.new (o := HO.tup [V.int p0.2.1, V.int p1.2.2]) hb0)
          refine ⟨_, rfl, _, rfl, _, _, rfl, rfl, q, _, _, _, rfl, rfl, SqT.of hp3.top, at1, p1.1, _, 0, V.int p1.2.1, rfl, rfl, SqT.of (hp3.row p1 m1), rfl, ?_⟩
          refine ⟨_, rfl, _, rfl, q, _, _, _, rfl, rfl, SqT.of hp3.top, at0, p0.1, _, 1, V.int p0.2.2, rfl, rfl, SqT.of (hp3.row p0 m0), rfl, by show 2 ≤ sizeLine; decide, fun b1 hb1 => ⟨by show 2 ≤ sizeLine; decide, fun bt hbt => ?_⟩⟩
          have hB : H b = none := hb
          have k3 := nk (u := HO.tup [V.ref b0, V.ref b1]) (nk (nk (upd_same (H := H) (a := b) (o := HO.lst (ps.map fun p => V.ref p.1))) hb0) hb1) hbt
          refine ⟨bt, _, rfl, SqT.of upd_same, rfl, _, _, rfl, ?_⟩
          refine ⟨_, rfl, _, rfl, b, _, _, j, rfl, rfl, k3, ixNat hj', ?_⟩
          refine ⟨_, _, rfl, _, rfl, _, rfl, _, _, rfl, rfl, b, _, _, j + 1, rfl, rfl, upd_same, ?_, ?_⟩
          · rw [List.length_set]
            exact ixNat (n := (ps.map fun p => V.ref p.1).length) (j := j + 1) (by rw [hL]; omega)
          refine ⟨rfl, _, rfl, rfl, false, congrArg V.bl (decide_eq_false (by decide)), iteF ?_⟩
          have S3 := (Same.new (o := HO.tup [V.int p0.2.1, V.int p1.2.2]) hb0).trans ((Same.new (o := HO.tup [V.int p1.2.1, V.int p0.2.2]) hb1).trans (Same.new (o := HO.tup [V.ref b0, V.ref b1]) hbt))
          refine ⟨_, rfl, fin _ _ (swD (ps.map (·.2)) j) ?_ upd_same ?_ ed⟩
          · exact ((KP.mut (S := fun _ => False) (KP.mut (S := fun _ => False) (KP.same (Sb.trans S3)) hB) hB)).toSame
          · have D4 : DvAll (upd (upd (upd (upd (upd (upd H b (HO.lst (ps.map fun p => V.ref p.1))) b0 (HO.tup [V.int p0.2.1, V.int p1.2.2])) b1 (HO.tup [V.int p1.2.1, V.int p0.2.2])) bt (HO.tup [V.ref b0, V.ref b1])) b (HO.lst ((ps.map fun p => V.ref p.1).set j (V.ref b0)))) b (HO.lst (((ps.map fun p => V.ref p.1).set j (V.ref b0)).set (j + 1) (V.ref b1)))) (ps.map fun p => V.ref p.1) ((ps.map (·.2)).map pairP) := dvAll_row (b := b) (fun p hp' => S3 _ _ (hp1.row p hp')) (fun a o ha hn => by rw [upd_ne hn, upd_ne hn]; exact ha) nb
            have n0 : b0 ≠ b := fun e => by
              rw [e, upd_same] at hb0
              cases hb0
            have n1 : b1 ≠ b := fun e => by
              rw [e, nk upd_same hb0] at hb1
              cases hb1
            have x0 := nk (u := HO.tup [V.ref b0, V.ref b1]) (nk (upd_same (H := upd H b (HO.lst (ps.map fun p => V.ref p.1))) (a := b0) (o := HO.tup [V.int p0.2.1, V.int p1.2.2])) hb1) hbt
            have x1 := nk (u := HO.tup [V.ref b0, V.ref b1]) (upd_same (H := upd (upd H b (HO.lst (ps.map fun p => V.ref p.1))) b0 (HO.tup [V.int p0.2.1, V.int p1.2.2])) (a := b1) (o := HO.tup [V.int p1.2.1, V.int p0.2.2])) hbt
            have D5 := dvAll_set (j := j + 1) (Dv.tup (H := upd (upd (upd (upd (upd (upd H b (HO.lst (ps.map fun p => V.ref p.1))) b0 (HO.tup [V.int p0.2.1, V.int p1.2.2])) b1 (HO.tup [V.int p1.2.1, V.int p0.2.2])) bt (HO.tup [V.ref b0, V.ref b1])) b (HO.lst ((ps.map fun p => V.ref p.1).set j (V.ref b0)))) b (HO.lst (((ps.map fun p => V.ref p.1).set j (V.ref b0)).set (j + 1) (V.ref b1)))) (a := b1) (by rw [upd_ne n1, upd_ne n1]; exact x1) (.cons (.int p1.2.1) (.cons (.int p0.2.2) .nil))) (dvAll_set (j := j) (Dv.tup (a := b0) (by rw [upd_ne n0, upd_ne n0]; exact x0) (.cons (.int p0.2.1) (.cons (.int p1.2.2) .nil))) D4)
            have q : ((((ps.map (·.2)).map pairP).set j (.tuple [.int p0.2.1, .int p1.2.2])).set (j + 1) (.tuple [.int p1.2.1, .int p0.2.2])) = (swD (ps.map (·.2)) j).map pairP := by
              rw [set2_sw (by rw [List.length_map, hLr]; omega)]
              unfold swD
              rw [List.map_append, List.map_append, List.map_take, List.map_drop, g0, g1]
              rfl
            rw [q] at D5
            exact D5
      · by_cases f00 : form = 0
        · subst f00
          refine ⟨_, rfl, rfl, false, congrArg V.bl (decide_eq_false (by decide)), iteF ?_⟩
          have ed : dueD 0 (ps.map (·.2)) t c = heapP (exD (ps.map (·.2)) j (t, c)) := by
            unfold dueD
            rw [e]
            show (if (0 : Int) = 1 then _ else (if (0 : Int) = 0 then heapP (exD (ps.map (·.2)) j (t, c)) else _)) = _
            rw [if_neg (by decide), if_pos rfl]
          refine ⟨_, rfl, rfl, true, congrArg V.bl (decide_eq_true rfl), iteT ?_⟩
          refine ⟨_, rfl, _, rfl, by show 2 ≤ sizeLine; decide, fun b0 hb0 => ?_⟩
          have k3 := nk (u := HO.tup [V.int t, V.int c]) (upd_same (H := H) (a := b) (o := HO.lst (ps.map fun p => V.ref p.1))) hb0
          refine ⟨_, rfl, _, rfl, b, _, _, j, rfl, rfl, k3, ixNat hj', ?_⟩
          refine ⟨_, rfl, rfl, false, congrArg V.bl (decide_eq_false (by decide)), iteF ?_⟩
          refine ⟨_, rfl, rfl, false, congrArg V.bl (decide_eq_false (by decide)), iteF ?_⟩
          refine ⟨_, rfl, fin _ _ (exD (ps.map (·.2)) j (t, c)) ?_ upd_same ?_ ed⟩
          · exact (KP.mut (S := fun _ => False) (KP.same (Sb.trans (Same.new (o := HO.tup [V.int t, V.int c]) hb0))) hb).toSame
          · have D4 : DvAll (upd (upd (upd H b (HO.lst (ps.map fun p => V.ref p.1))) b0 (HO.tup [V.int t, V.int c])) b (HO.lst ((ps.map fun p => V.ref p.1).set j (V.ref b0)))) (ps.map fun p => V.ref p.1) ((ps.map (·.2)).map pairP) := dvAll_row (b := b) (fun p hp' => nk (hp1.row p hp') hb0) (fun a o ha hn => by rw [upd_ne hn]; exact ha) nb
            have n0 : b0 ≠ b := fun e => by
              rw [e, upd_same] at hb0
              cases hb0
            have D5 := dvAll_set (j := j) (Dv.tup (H := upd (upd (upd H b (HO.lst (ps.map fun p => V.ref p.1))) b0 (HO.tup [V.int t, V.int c])) b (HO.lst ((ps.map fun p => V.ref p.1).set j (V.ref b0)))) (a := b0) (by rw [upd_ne n0]; exact upd_same) (.cons (.int t) (.cons (.int c) .nil))) D4
            have q : ((ps.map (·.2)).map pairP).set j (.tuple [.int t, .int c]) = (exD (ps.map (·.2)) j (t, c)).map pairP := set1_ex (r := (t, c)) (by rw [hLr]; exact hj)
            rw [q] at D5
            exact D5
        · have f22 : form = 2 := by omega
          subst f22
          refine ⟨_, rfl, rfl, false, congrArg V.bl (decide_eq_false (by decide)), iteF ?_⟩
          have ed : dueD 2 (ps.map (·.2)) t c = heapP (stD (ps.map (·.2)) j) := by
            unfold dueD
            rw [e]
            show (if (2 : Int) = 1 then _ else (if (2 : Int) = 0 then _ else heapP (stD (ps.map (·.2)) j))) = _
            rw [if_neg (by decide), if_neg (by decide)]
          refine ⟨_, rfl, rfl, false, congrArg V.bl (decide_eq_false (by decide)), iteF ?_⟩
          refine ⟨_, rfl, rfl, false, congrArg V.bl (decide_eq_false (by decide)), iteF ?_⟩
          refine ⟨_, rfl, rfl, true, congrArg V.bl (decide_eq_true rfl), iteT ?_⟩
          refine ⟨_, rfl, .inl ⟨rfl, _, SqL.of upd_same⟩, _, rfl, b, _, (j : Int), j, V.ref p0.1, rfl, rfl, upd_same, by omega, by omega, seqIndex_of (by omega) (by rw [hL]; omega), ?_, ?_⟩
          · rw [List.getElem?_map, h0] <;> rfl
          refine ⟨_, rfl, fin _ _ (stD (ps.map (·.2)) j) ?_ upd_same ?_ ed⟩
          · exact (KP.mut (S := fun _ => False) (KP.same Sb) hb).toSame
          · have D4 : DvAll (upd (upd H b (HO.lst (ps.map fun p => V.ref p.1))) b (HO.lst ((ps.map fun p => V.ref p.1).eraseIdx j))) (ps.map fun p => V.ref p.1) ((ps.map (·.2)).map pairP) := dvAll_row (b := b) hp1.row (fun a o ha hn => by rw [upd_ne hn]; exact ha) nb
            have D5 := dvAll_erase (j := j) D4
            have q : ((ps.map (·.2)).map pairP).eraseIdx j = (stD (ps.map (·.2)) j).map pairP := by
              rw [eraseIdx_map, List.eraseIdx_eq_take_drop_succ]
              rfl
            rw [q] at D5
            exact D5
end
end Lk

set_option Elab.async false
set_option linter.all false
set_option maxRecDepth 100000
set_option maxHeartbeats 4000000
namespace Lk
open PySem L2
abbrev s_law_bad_slip : Stmt := top 36
abbrev N_law_bad_slip : List Str := ["deal", "commands", "time", "odd"]
abbrev P_law_bad_slip : List Str := ["deal", "commands", "time"]
theorem sc_law_bad_slip : FnScope N_law_bad_slip P_law_bad_slip (defScope s_law_bad_slip) := ⟨rfl, rfl, rfl, by decide +kernel, rfl, by decide +kernel, by decide +kernel⟩
theorem pick13 {a b c d e f g h i j m n o v : V} {k : Nat} {P : V → Prop} (q : [a, b, c, d, e, f, g, h, i, j, m, n, o][k]? = some v) (ha : P a) (hb : P b) (hc : P c) (hd : P d) (he : P e) (hf : P f) (hg : P g) (hh : P h) (hi : P i) (hj : P j) (hm : P m) (hn : P n) (ho : P o) : P v := by
  match k, q with
  | 0, q => exact (Option.some.inj q) ▸ ha
  | 1, q => exact (Option.some.inj q) ▸ hb
  | 2, q => exact (Option.some.inj q) ▸ hc
  | 3, q => exact (Option.some.inj q) ▸ hd
  | 4, q => exact (Option.some.inj q) ▸ he
  | 5, q => exact (Option.some.inj q) ▸ hf
  | 6, q => exact (Option.some.inj q) ▸ hg
  | 7, q => exact (Option.some.inj q) ▸ hh
  | 8, q => exact (Option.some.inj q) ▸ hi
  | 9, q => exact (Option.some.inj q) ▸ hj
  | 10, q => exact (Option.some.inj q) ▸ hm
  | 11, q => exact (Option.some.inj q) ▸ hn
  | 12, q => exact (Option.some.inj q) ▸ ho
  | n + 13, q => simp at q
theorem isP_r {A : Int} {x y : PyData} (h : isB A y = false) : isP A (.tuple [x, y]) = false := by
  show (isN x && isB A y) = false
  rw [h, Bool.and_false]
/-- what is no slip -/
def spBad : Sp := fun vs H Q _ => ∃ (d l : Addr) (A t : Int), vs = [.ref d, .int A, .int t] ∧ DealAt H d l ∧ ∀ (H' : Hp) (v : V) (e : PyData), DealAt H' d l → SB d l H H' → KDv d l H' v e → isP A e = false → Q v H'
section
variable {P : Program} {w : World} {K : PySem.W.Frag} {mg : Str → Option Value} {base : Heap}
theorem ok_bad {f fo fa : Addr} {fd fdo fda : FuncData} (A0 : Df K mg "_law_bad_slip" s_law_bad_slip f fd P_law_bad_slip) (d_law_of : Df K mg "_law_of" s_law_of fo fdo P_law_of) (d_law_any : Df K mg "_law_any" s_law_any fa fda P_law_any) (T : Txt mg) : FnOk P w K mg base CX0 3 f fd P_law_bad_slip spBad := by
  have G_law_of : FnOk P w K mg base CX0 2 fo fdo P_law_of spOf := ok_of d_law_of d_law_any T
  refine A0.F.ok sc_law_bad_slip (fun vs H Q E h => ?_) (fun cdv Ar outer s H vs Q E hr h => ?_)
  · obtain ⟨d, l, A, t, rfl, _⟩ := h
    rfl
  · obtain ⟨d, l, A, t, rfl, D, k⟩ := h
    refine ⟨_, (pss_cons (ps_set (i := 3) sc_law_bad_slip.nd rfl (Or.inl rfl) (pe_lst (pa_cons (pe_lst (pa_cons (pv 2) (pa_cons pe_int pa_nil))) (pa_cons (pe_tup (pa_cons (pv 2) pa_nil)) (pa_cons (pe_tup (pa_cons (pv 2) (pa_cons pe_int (pa_cons pe_int pa_nil)))) (pa_cons pe_non (pa_cons (pe_tup (pa_cons (pe_un un_neg pe_int) (pa_cons pe_int pa_nil))) (pa_cons (pe_tup (pa_cons pe_bl (pa_cons pe_int pa_nil))) (pa_cons (pe_tup (pa_cons (pv 2) (pa_cons (pv 1) pa_nil))) (pa_cons (pe_tup (pa_cons (pv 2) (pa_cons pe_bl pa_nil))) (pa_cons (pe_tup (pa_cons pe_str (pa_cons pe_int pa_nil))) (pa_cons (pe_tup (pa_cons (pv 2) (pa_cons pe_non pa_nil))) pa_nil))))))))))))
    (pss_one (ps_ret (pe_call G_law_of (hr.mono (by decide)) rfl d_law_of.g d_law_of.F.kp d_law_of.b .nil pass0 (pa_cons (pv 0) (pa_cons (pe_op op_cat (pv 3) (pe_lst (pa_cons (pv 2) (pa_cons (pe_tup (pa_cons (pv 2) (pa_cons (pe_un un_neg pe_int) pa_nil))) (pa_cons (pe_tup (pa_cons pe_non (pa_cons pe_int pa_nil))) pa_nil))))) pa_nil)))))), ?_⟩
    refine ⟨_, rfl, by show 2 ≤ sizeLine; decide, fun q1 h1 => ⟨_, rfl, by show 1 ≤ sizeLine; decide, fun q2 h2 => ⟨_, rfl, by show 3 ≤ sizeLine; decide, fun q3 h3 => ⟨_, rfl, by show 2 ≤ sizeLine; decide, fun q4 h4 => ⟨by show 2 ≤ sizeLine; decide, fun q5 h5 => ⟨_, rfl, _, rfl, by show 2 ≤ sizeLine; decide, fun q6 h6 => ⟨_, rfl, by show 2 ≤ sizeLine; decide, fun q7 h7 => ⟨by show 2 ≤ sizeLine; decide, fun q8 h8 => ⟨_, rfl, by show 2 ≤ sizeLine; decide, fun q9 h9 => ⟨by show 10 ≤ sizeLine; decide, fun q10 h10 => ⟨_, rfl, _, rfl, _, rfl, _, rfl, _, rfl, by show 2 ≤ sizeLine; decide, fun q11 h11 => ⟨by show 2 ≤ sizeLine; decide, fun q12 h12 => ⟨by show 3 ≤ sizeLine; decide, fun q13 h13 => ⟨_, _, _, _, rfl, rfl, (nk (nk (nk upd_same h11) h12) h13), upd_same, by show 13 ≤ sizeLine; decide, fun q14 h14 => ?_⟩⟩⟩⟩⟩⟩⟩⟩⟩⟩⟩⟩⟩⟩
    have D1 := D.new (o := HO.lst [V.int t, V.int 0]) h1
    have D2 := D1.new (o := HO.tup [V.int t]) h2
    have D3 := D2.new (o := HO.tup [V.int t, V.int 0, V.int 0]) h3
    have D4 := D3.new (o := HO.tup [V.int (-1), V.int 0]) h4
    have D5 := D4.new (o := HO.tup [V.bl true, V.int 0]) h5
    have D6 := D5.new (o := HO.tup [V.int t, V.int A]) h6
    have D7 := D6.new (o := HO.tup [V.int t, V.bl true]) h7
    have D8 := D7.new (o := HO.tup [V.str "0", V.int 0]) h8
    have D9 := D8.new (o := HO.tup [V.int t, V.non]) h9
    have D10 := D9.new (o := HO.lst [V.ref q1, V.ref q2, V.ref q3, V.non, V.ref q4, V.ref q5, V.ref q6, V.ref q7, V.ref q8, V.ref q9]) h10
    have D11 := D10.new (o := HO.tup [V.int t, V.int (-1)]) h11
    have D12 := D11.new (o := HO.tup [V.non, V.int 0]) h12
    have D13 := D12.new (o := HO.lst [V.int t, V.ref q11, V.ref q12]) h13
    have D14 := D13.new (o := HO.lst ([V.ref q1, V.ref q2, V.ref q3, V.non, V.ref q4, V.ref q5, V.ref q6, V.ref q7, V.ref q8, V.ref q9] ++ [V.int t, V.ref q11, V.ref q12])) h14
    have n1 : ¬ dl d l q1 := D.free h1
    have n2 : ¬ dl d l q2 := D1.free h2
    have n3 : ¬ dl d l q3 := D2.free h3
    have n4 : ¬ dl d l q4 := D3.free h4
    have n5 : ¬ dl d l q5 := D4.free h5
    have n6 : ¬ dl d l q6 := D5.free h6
    have n7 : ¬ dl d l q7 := D6.free h7
    have n8 : ¬ dl d l q8 := D7.free h8
    have n9 : ¬ dl d l q9 := D8.free h9
    have n11 : ¬ dl d l q11 := D10.free h11
    have n12 : ¬ dl d l q12 := D11.free h12
    refine ⟨d, l, q14, _, rfl, upd_same, D13.free h14, by show 0 < 13; decide, by show 13 ≤ 1000; decide, D14, fun H' i v D' S hi => ?_⟩
    have g1 := S.kp.get n1 (nk (nk (nk (nk (nk (nk (nk (nk (nk (nk (nk (nk (nk upd_same h2) h3) h4) h5) h6) h7) h8) h9) h10) h11) h12) h13) h14)
    have g2 := S.kp.get n2 (nk (nk (nk (nk (nk (nk (nk (nk (nk (nk (nk (nk upd_same h3) h4) h5) h6) h7) h8) h9) h10) h11) h12) h13) h14)
    have g3 := S.kp.get n3 (nk (nk (nk (nk (nk (nk (nk (nk (nk (nk (nk upd_same h4) h5) h6) h7) h8) h9) h10) h11) h12) h13) h14)
    have g4 := S.kp.get n4 (nk (nk (nk (nk (nk (nk (nk (nk (nk (nk upd_same h5) h6) h7) h8) h9) h10) h11) h12) h13) h14)
    have g5 := S.kp.get n5 (nk (nk (nk (nk (nk (nk (nk (nk (nk upd_same h6) h7) h8) h9) h10) h11) h12) h13) h14)
    have g6 := S.kp.get n6 (nk (nk (nk (nk (nk (nk (nk (nk upd_same h7) h8) h9) h10) h11) h12) h13) h14)
    have g7 := S.kp.get n7 (nk (nk (nk (nk (nk (nk (nk upd_same h8) h9) h10) h11) h12) h13) h14)
    have g8 := S.kp.get n8 (nk (nk (nk (nk (nk (nk upd_same h9) h10) h11) h12) h13) h14)
    have g9 := S.kp.get n9 (nk (nk (nk (nk (nk upd_same h10) h11) h12) h13) h14)
    have g11 := S.kp.get n11 (nk (nk (nk upd_same h12) h13) h14)
    have g12 := S.kp.get n12 (nk (nk upd_same h13) h14)
    have hv : ∃ e, KDv d l H' v e ∧ isP A e = false := pick13 (P := fun v => ∃ e, KDv d l H' v e ∧ isP A e = false) hi ⟨_, fun H' S' => .lst (S'.kp.get n1 g1) (.cons (.int t) (.cons (.int 0) .nil)), rfl⟩ ⟨_, fun H' S' => .tup (S'.kp.get n2 g2) (.cons (.int t) .nil), rfl⟩ ⟨_, fun H' S' => .tup (S'.kp.get n3 g3) (.cons (.int t) (.cons (.int 0) (.cons (.int 0) .nil))), rfl⟩ ⟨_, fun _ _ => .non, rfl⟩ ⟨_, fun H' S' => .tup (S'.kp.get n4 g4) (.cons (.int (-1)) (.cons (.int 0) .nil)), rfl⟩ ⟨_, fun H' S' => .tup (S'.kp.get n5 g5) (.cons (.bl true) (.cons (.int 0) .nil)), rfl⟩ ⟨_, fun H' S' => .tup (S'.kp.get n6 g6) (.cons (.int t) (.cons (.int A) .nil)), isP_r isB_self⟩ ⟨_, fun H' S' => .tup (S'.kp.get n7 g7) (.cons (.int t) (.cons (.bl true) .nil)), isP_r rfl⟩ ⟨_, fun H' S' => .tup (S'.kp.get n8 g8) (.cons (.str _) (.cons (.int 0) .nil)), rfl⟩ ⟨_, fun H' S' => .tup (S'.kp.get n9 g9) (.cons (.int t) (.cons .non .nil)), isP_r rfl⟩ ⟨_, fun _ _ => .int t, rfl⟩ ⟨_, fun H' S' => .tup (S'.kp.get n11 g11) (.cons (.int t) (.cons (.int (-1)) .nil)), isP_r rfl⟩ ⟨_, fun H' S' => .tup (S'.kp.get n12 g12) (.cons .non (.cons (.int 0) .nil)), rfl⟩
    obtain ⟨e, Ke, he⟩ := hv
    exact k H' v e D' ((SB.new h1).trans ((SB.new h2).trans ((SB.new h3).trans ((SB.new h4).trans ((SB.new h5).trans ((SB.new h6).trans ((SB.new h7).trans ((SB.new h8).trans ((SB.new h9).trans ((SB.new h10).trans ((SB.new h11).trans ((SB.new h12).trans ((SB.new h13).trans ((SB.new h14).trans (S))))))))))))))) Ke he
end
end Lk

set_option Elab.async false
set_option linter.all false
set_option maxRecDepth 100000
set_option maxHeartbeats 4000000
namespace Lk
open PySem L2
abbrev fR (p : Addr × Int × Int) : V := V.ref p.1
theorem lay_pairs : ∀ rs : List (Int × Int), PyData.canLayAll0 (rs.map pairP) = true ∧ PyData.depthAll (rs.map pairP) ≤ 1
  | [] => ⟨rfl, by decide⟩
  | r :: rs => by
    obtain ⟨h1, h2⟩ := lay_pairs rs
    refine ⟨?_, ?_⟩
    · show ((true && (true && true)) && PyData.canLayAll0 (rs.map pairP)) = true
      rw [h1] <;> rfl
    · show max (max 0 (max 0 0) + 1) (PyData.depthAll (rs.map pairP)) ≤ 1
      omega
theorem shaped_pairs (rs : List (Int × Int)) : SeqAt.shaped (.list (rs.map pairP)) = true := by
  obtain ⟨h1, h2⟩ := lay_pairs rs
  have e1 : PyData.canLay0 (.list (rs.map pairP)) = true := h1
  have e2 : PyData.depth (.list (rs.map pairP)) = PyData.depthAll (rs.map pairP) + 1 := rfl
  unfold SeqAt.shaped
  rw [e1, Bool.true_and]
  exact decide_eq_true (by omega)
/-- pairs of a list or a tuple in some order, in a new list -/
def spMixedP (K : PySem.W.Frag) : Sp := fun vs H Q _ => ∃ (d l a : Addr) (ns : List (Addr × Int × Int)), vs = [.ref d, .ref a] ∧ (SqL K H a (ns.map fR) ∨ SqT K H a (ns.map fR)) ∧ ns.length ≤ 1000 ∧ DealAt H d l ∧ (∀ p ∈ ns, ¬ dl d l p.1 ∧ H p.1 = some (.tup [.int p.2.1, .int p.2.2])) ∧
  ∀ (H' : Hp) (p : Addr) (ms : List (Addr × Int × Int)), DealAt H' d l → SB d l H H' → H p = none → H' p = some (.lst (ms.map fR)) → ms.Perm ns → Q (.ref p) H'
section
variable {P : Program} {w : World} {K : PySem.W.Frag} {mg : Str → Option Value} {base : Heap}
theorem ok_mixedP {f fa : Addr} {fd fda : FuncData} (A0 : Df K mg "_law_mixed" s_law_mixed f fd P_law_mixed) (d_law_any : Df K mg "_law_any" s_law_any fa fda P_law_any) (T : Txt mg) : FnOk P w K mg base CX0 2 f fd P_law_mixed (spMixedP K) := by
  have G_law_any : FnOk P w K mg base CX0 1 fa fda P_law_any spAny := ok_any d_law_any T
  refine A0.F.ok sc_law_mixed (fun vs H Q E h => ?_) (fun cdv A outer s H vs Q E hr h => ?_)
  · obtain ⟨d, l, a, xs, rfl, _⟩ := h
    rfl
  · obtain ⟨d, l, a, ns, rfl, hx, h1, D, hrow, k⟩ := h
    have hu : A.units + 3 + 64 < cLine := by have := hr.un; simp only [Around.deeper] at this; omega
    refine ⟨_, (pss_cons (ps_par (i := 2) (j := 3) rfl sc_law_mixed.nd rfl rfl (by decide) rfl rfl (pa_cons (pe_callTy call_list_of (by rfl) T.list (by decide +kernel) (pa_cons (pv 1) pa_nil)) (pa_cons (pe_lst pa_nil) pa_nil)) rfl)
    (pss_cons (ps_while PassesOwn.never (pt_cmpR (op_neD hu) (pv 2) (pe_lst pa_nil) (nomark _))
      (pss_one (ps_expr (pe_bm PySem.F.plainAttrs_list PySem.F.slot_list_append PySem.F.type_list_append mt_append (pv 3) (pa_cons (pe_bm PySem.F.plainAttrs_list PySem.F.slot_list_pop PySem.F.type_list_pop mt_popAt (pv 2) (pa_cons (pe_call G_law_any (hr.mono (by decide)) rfl d_law_any.g d_law_any.F.kp d_law_any.b .nil pass0 (pa_cons (pv 0) (pa_cons (pe_callB call_len_seq (by rfl) T.len PySem.boot_len (pa_cons (pv 2) pa_nil)) pa_nil))) pa_nil)) pa_nil)))))
    (pss_one (ps_ret (pv 3))))), ?_⟩
    refine ⟨_, rfl, a, _, rfl, hx, fun q hq => ⟨Nat.zero_le _, fun r hr0 => ⟨_, _, rfl, ?_⟩⟩⟩
    have nqr : q ≠ r := fun e => by rw [← e, upd_same] at hr0; cases hr0
    have q0 : H q = none := hq
    have r0 : H r = none := by rw [upd_ne nqr.symm] at hr0; exact hr0
    refine ⟨fun m σ H1 => ∃ ls fs : List (Addr × Int × Int), σ = [some (.ref d), some (.ref a), some (.ref q), some (.ref r)] ∧ DealAt H1 d l ∧ SB d l H H1 ∧ H1 q = some (.lst (ls.map fR)) ∧ H1 r = some (.lst (fs.map fR)) ∧ (fs ++ ls).Perm ns ∧ m = ls.length,
      ⟨_, ns, [], rfl, ?_, ?_, ?_, ?_, List.Perm.refl _, rfl⟩, ?_⟩
    · exact (D.new hq).new hr0
    · exact ((KP.new (S := dl d l) hq).trans (KP.new hr0)).sb
    · rw [upd_ne nqr, upd_same]
    · rw [upd_same]
      rfl
    · rintro m σ H1 ⟨ls, fs, rfl, D1, S1, hq1, hr1, hp, rfl⟩
      have rows : ∀ p ∈ ls, H1 p.1 = some (.tup [.int p.2.1, .int p.2.2]) := fun p hp' => by
        obtain ⟨z1, z2⟩ := hrow p (hp.mem_iff.mp (List.mem_append_right _ hp'))
        exact S1.kp.get z1 z2
      refine ⟨_, rfl, Nat.zero_le _, fun z hz => ⟨_, _, Dp.lst (SqL.of (by rw [upd_ne (ne_of_none hq1 hz)]; exact hq1)) (dp_heap fun p hp' => nk (rows p hp') hz), Dp.lst (SqL.of upd_same) .nil, shaped_pairs _, by decide +kernel, _, rfl, ?_⟩⟩
      have D2 := D1.new (o := HO.lst []) hz
      have S2 : SB d l H _ := S1.trans (SB.new (o := HO.lst []) hz)
      have hq2 : upd H1 z (HO.lst []) q = some (.lst (ls.map fR)) := by rw [upd_ne (ne_of_none hq1 hz)]; exact hq1
      have hr2 : upd H1 z (HO.lst []) r = some (.lst (fs.map fR)) := by rw [upd_ne (ne_of_none hr1 hz)]; exact hr1
      rw [eqv_nil]
      have nq : ¬ dl d l q := D.free q0
      have nr : ¬ dl d l r := D.free r0
      cases ls with
      | nil =>
        refine iteF ?_
        refine ⟨_, rfl, ?_⟩
        rw [List.append_nil] at hp
        exact k _ r fs D2 S2 r0 hr2 hp
      | cons x xs =>
        refine iteT ⟨fun σ' H' => ∃ m', m' < (x :: xs).length ∧ ∃ ls fs : List (Addr × Int × Int), σ' = [some (.ref d), some (.ref a), some (.ref q), some (.ref r)] ∧ DealAt H' d l ∧ SB d l H H' ∧ H' q = some (.lst (ls.map fR)) ∧ H' r = some (.lst (fs.map fR)) ∧ (fs ++ ls).Perm ns ∧ m' = ls.length, fun _ _ h => h, ?_⟩
        have hlen : (x :: xs).length ≤ 1000 := by
          have := hp.length_eq
          rw [List.length_append] at this
          omega
        refine ⟨_, rfl, .inl ⟨rfl, _, SqL.of hr2⟩, _, rfl, .inl ⟨rfl, _, SqL.of hq2⟩, _, rfl, _, rfl, q, _, rfl, .inl (SqL.of hq2), d, l, _, rfl, by rw [List.length_map]; simp, by rw [List.length_map]; omega, D2, fun H3 i D3 S3 i0 i1 => ?_⟩
        rw [List.length_map] at i1
        have hi : i.toNat < (x :: xs).length := by omega
        have hq3 : H3 q = some (.lst ((x :: xs).map fR)) := S3.kp.get nq hq2
        have hr3 : H3 r = some (.lst (fs.map fR)) := S3.kp.get nr hr2
        refine ⟨q, _, i, i.toNat, fR (x :: xs)[i.toNat], rfl, rfl, hq3, by omega, by omega, seqIndex_of i0 (by rw [List.length_map]; exact i1), ?_, ?_⟩
        · rw [List.getElem?_map, List.getElem?_eq_getElem hi]
          rfl
        · refine ⟨r, _, _, rfl, rfl, by rw [upd_ne nqr.symm]; exact hr3, ?_, ?_⟩
          · have := hp.length_eq
            rw [List.length_append] at this
            rw [List.length_map]
            exact Nat.lt_of_le_of_lt (by omega : _ ≤ 1000) (by decide)
          · refine ⟨((x :: xs).eraseIdx i.toNat).length, ?_, (x :: xs).eraseIdx i.toNat, fs ++ [(x :: xs)[i.toNat]], rfl, ?_, ?_, ?_, ?_, ?_, rfl⟩
            · rw [List.length_eraseIdx, if_pos hi]
              omega
            · exact (D3.upd nq).upd nr
            · exact (((S2.trans S3).kp.mut q0).mut r0).sb
            · rw [upd_ne nqr, upd_same, eraseIdx_map]
            · rw [upd_same, List.map_append]
              rfl
            · rw [List.append_assoc]
              refine (List.Perm.append_left fs ?_).trans hp
              exact perm_erase hi
end
end Lk

set_option Elab.async false
set_option linter.all false
set_option maxRecDepth 100000
set_option maxHeartbeats 8000000
namespace Lk
open PySem L2
theorem show_pairs : ∀ {rs : List (Int × Int)}, (∀ r ∈ rs, r.1.natAbs < 2 ^ 30 ∧ r.2.natAbs < 2 ^ 30) → PyData.showableAll (rs.map pairP) = true ∧ PyData.hasDictAll (rs.map pairP) = false ∧ PyData.leavesShortAll 13 (rs.map pairP) = true ∧ PyData.weightAll (rs.map pairP) ≤ 65 * rs.length
  | [], _ => ⟨rfl, rfl, rfl, Nat.le_refl _⟩
  | r :: rs, h => by
    obtain ⟨h1, h2, h3, h4⟩ := show_pairs fun y hy => h y (List.mem_cons_of_mem _ hy)
    obtain ⟨z1, z2⟩ := h r List.mem_cons_self
    obtain ⟨a1, a2⟩ := show_int z1
    obtain ⟨b1, b2⟩ := show_int z2
    have a3 := weight_int z1
    have b3 := weight_int z2
    refine ⟨?_, ?_, ?_, ?_⟩
    · show (((PyData.int r.1).showable && ((PyData.int r.2).showable && true)) && PyData.showableAll (rs.map pairP)) = true
      rw [a1, b1, h1] <;> rfl
    · show ((false || (false || false)) || PyData.hasDictAll (rs.map pairP)) = false
      rw [h2] <;> rfl
    · show (((PyData.int r.1).leavesShort 13 && ((PyData.int r.2).leavesShort 13 && true)) && PyData.leavesShortAll 13 (rs.map pairP)) = true
      rw [a2, b2, h3] <;> rfl
    · show (PyData.int r.1).weight + 1 + ((PyData.int r.2).weight + 1 + 0) + 1 + PyData.weightAll (rs.map pairP) ≤ 65 * (rs.length + 1)
      omega
/-- a heap may be shown -/
theorem sh_heap {rs : List (Int × Int)} (h : ∀ r ∈ rs, r.1.natAbs < 2 ^ 30 ∧ r.2.natAbs < 2 ^ 30) (hl : rs.length ≤ 10000) : Sh (heapP rs) := by
  obtain ⟨h1, h2, h3, h4⟩ := show_pairs h
  refine ⟨h1, h2, h3, Nat.le_trans h4 (by omega), ?_⟩
  have e : (heapP rs).depth = PyData.depthAll (rs.map pairP) + 1 := rfl
  have := (lay_pairs rs).2
  omega

theorem out_never {P : Program} {w : World} {X : Cx} : ∀ σ, PassesAt (L2.CX P w) X σ ((fun _ => E0) σ) := fun _ _ _ _ _ _ _ ⟨_, _, _, _, _, _, _, _, _, _, _, _, he⟩ => he.elim
theorem Game.mok {CM : Addr} {H : Hp} {d l a m : Addr} {A : Nat} {ts us : List (Addr × List Int)} (g : Game CM H d l a m A ts us) : MOk (A : Int) us := by
  have h5 := g.A5
  have h0 := g.A0
  have e : us.length = ts.length := by rw [← rsOf_len us, g.e, rsOf_len]
  have hz := g.hz
  exact ⟨by omega, by omega, by omega, by rw [Int.toNat_natCast, g.e]; exact g.rows⟩
theorem toNx {D : Ends} {σ : St} {H : Hp} (h : D.nx σ H) : tNext D σ H := h
theorem norm {f : St → Hp → Prop} {σ σ' : St} {H : Hp} (e : σ = σ') (h : f σ' H) : f σ H := by
  rw [e]
  exact h
theorem normG {g : TG} {u : V} {σ σ' : St} {H : Hp} {f : St → Hp → Prop} (e : σ = σ') (h : g u σ' H f) : g u σ H f := by
  rw [e]
  exact h
theorem wipe2 {σ : St} {i j : Nat} (x y : V) : wipe (((wipe σ [i, j]).set i (some x)).set j (some y)) [i, j] = wipe σ [i, j] := by
  show ((((((σ.set j none).set i none).set i (some x)).set j (some y)).set j none).set i none) = (σ.set j none).set i none
  simp only [List.set_set]
  by_cases h : i = j
  · subst h
    simp only [List.set_set]
  · rw [List.set_comm (i := j) (j := i) _ _ (fun e => h e.symm)]
    simp only [List.set_set]
    rw [List.set_comm (i := i) (j := j) _ _ h]
    simp only [List.set_set]
/-- the second, or the first of each pair -/
theorem tv2 {σ : St} {i j : Nat} {x y : Int} {H : Hp} {Q : VK} (hj : j < σ.length) (k : Q (.int y) H) : tVar j (((wipe σ [i, j]).set i (some (.int x))).set j (some (.int y))) H Q := by
  refine ⟨.int y, ?_, k⟩
  rw [List.getElem?_set_self (by rw [List.length_set, wipe_length]; exact hj)]
theorem tv1 {σ : St} {i j : Nat} {x y : Int} {H : Hp} {Q : VK} (hij : j ≠ i) (hi : i < σ.length) (k : Q (.int x) H) : tVar i (((wipe σ [i, j]).set i (some (.int x))).set j (some (.int y))) H Q := by
  refine ⟨.int x, ?_, k⟩
  rw [List.getElem?_set_ne hij, List.getElem?_set_self (by rw [wipe_length]; exact hi)]
theorem iteS {y z : Str} {A B : Prop} (e : y = z) (k : B) : if (!decide (V.str y = V.str z)) = true then A else B := by
  rw [e, decide_eq_true rfl]
  exact iteF k
theorem iteE {b : Bool} {A B : Prop} (e : b = true) (k : B) : if (!b) = true then A else B := by
  rw [e]
  exact iteF k
theorem iteN {b : Bool} {A B : Prop} (e : b = false) (k : A) : if (!b) = true then A else B := by
  rw [e]
  exact iteT k
theorem pairD_pairs (rs : List (Int × Int)) : (rs.map pairP).map pairD = rs := by
  rw [List.map_map]
  exact (List.map_congr_left fun r _ => rfl).trans (List.map_id rs)
theorem isP_ok {A : Int} {r : Int × Int} (h : 0 ≤ r.1 ∧ 0 ≤ r.2 ∧ r.2 < A) : isP A (pairP r) = true := by
  show (decide (0 ≤ r.1) && (decide (0 ≤ r.2) && decide (r.2 < A))) = true
  rw [decide_eq_true h.1, decide_eq_true h.2.1, decide_eq_true h.2.2] <;> rfl
theorem badP_app {A : Int} {post : List PyData} : ∀ {rs : List (Int × Int)} {S : Int → Bool} {i : Nat}, (∀ r ∈ rs, (0 ≤ r.1 ∧ 0 ≤ r.2 ∧ r.2 < A) ∧ S r.1 = false) → (rs.map (·.1)).Nodup →
    ∃ S' : Int → Bool, (∀ j, S' j = true ↔ (S j = true ∨ j ∈ rs.map (·.1))) ∧ badP A (rs.map pairP ++ post) S i = badP A post S' (i + rs.length)
  | [], S, i, _, _ => ⟨S, by simp, rfl⟩
  | r :: rs, S, i, h, nd => by
    obtain ⟨h1, h2⟩ := h r List.mem_cons_self
    rw [List.map_cons, List.nodup_cons] at nd
    obtain ⟨S', e1, e2⟩ := badP_app (post := post) (rs := rs) (S := fun j => S j || decide (j = r.1)) (i := i + 1) (fun y hy => ⟨(h y (List.mem_cons_of_mem _ hy)).1, by
      show (S y.1 || decide (y.1 = r.1)) = false
      rw [(h y (List.mem_cons_of_mem _ hy)).2, decide_eq_false (fun e => nd.1 (by rw [← e]; exact List.mem_map.mpr ⟨y, hy, rfl⟩))]
      rfl⟩) nd.2
    refine ⟨S', fun j => ?_, ?_⟩
    · rw [e1 j, Bool.or_eq_true, decide_eq_true_iff, List.map_cons, List.mem_cons]
      exact or_assoc
    · rw [List.map_cons, List.cons_append, badP_cons, if_pos ⟨isP_ok h1, h2⟩, List.length_cons]
      show badP A (rs.map pairP ++ post) (fun j => S j || decide (j = r.1)) (i + 1) = _
      rw [e2, Nat.add_assoc, Nat.add_comm 1]
theorem heapRes_ok {A : Int} {dy : PyData} {rs : List (Int × Int)} (h1 : isS dy = true) (h2 : itemsD dy = rs.map pairP) (h : ∀ r ∈ rs, 0 ≤ r.1 ∧ 0 ≤ r.2 ∧ r.2 < A) (nd : (rs.map (·.1)).Nodup) : heapRes A dy = none := by
  unfold heapRes
  rw [if_neg (by rw [h1]; decide), h2, ← List.append_nil (rs.map pairP)]
  obtain ⟨S', _, e⟩ := badP_app (A := A) (post := []) (rs := rs) (S := fun _ => false) (i := 0) (fun r hr => ⟨h r hr, rfl⟩) nd
  rw [e]
  rfl
theorem heapRes_bad {A : Int} {dy e : PyData} {post : List PyData} {rs : List (Int × Int)} (h1 : isS dy = true) (h2 : itemsD dy = rs.map pairP ++ e :: post) (h : ∀ r ∈ rs, 0 ≤ r.1 ∧ 0 ≤ r.2 ∧ r.2 < A) (nd : (rs.map (·.1)).Nodup) (he : isP A e = false) : heapRes A dy = some rs.length := by
  unfold heapRes
  rw [if_neg (by rw [h1]; decide), h2]
  obtain ⟨S', _, q⟩ := badP_app (A := A) (post := e :: post) (rs := rs) (S := fun _ => false) (i := 0) (fun r hr => ⟨h r hr, rfl⟩) nd
  rw [q, badP_cons, if_neg (fun z => by rw [he] at z; exact absurd z.1 (by decide)), Nat.zero_add]
theorem heapRes_twice {A : Int} {dy : PyData} {r : Int × Int} {rs : List (Int × Int)} (h1 : isS dy = true) (h2 : itemsD dy = rs.map pairP ++ [pairP r]) (h : ∀ r ∈ rs, 0 ≤ r.1 ∧ 0 ≤ r.2 ∧ r.2 < A) (nd : (rs.map (·.1)).Nodup) (hr : r ∈ rs) : heapRes A dy = some rs.length := by
  unfold heapRes
  rw [if_neg (by rw [h1]; decide), h2]
  obtain ⟨S', e1, q⟩ := badP_app (A := A) (post := [pairP r]) (rs := rs) (S := fun _ => false) (i := 0) (fun r hr => ⟨h r hr, rfl⟩) nd
  have e2 : S' (timeD (pairP r)) = true := (e1 r.1).mpr (.inr (List.mem_map.mpr ⟨r, hr, rfl⟩))
  rw [q, badP_cons, if_neg (fun z => by rw [e2] at z; exact absurd z.2 (by decide)), Nat.zero_add]
theorem heapRes_no {A : Int} {d : PyData} (h : isS d = false) : heapRes A d = some 0 := by
  unfold heapRes
  rw [if_pos h]
section
variable {A : Int} {us : List (Addr × List Int)} {dx dy d : PyData} {rs : List (Int × Int)} {k : Nat}
end
theorem shaped_slip (s : Str) (i : Int) (hs : PyData.canLay0 (.str s) = true) : SeqAt.shaped (.tuple [.str s, .int i]) = true := by
  have h1 : PyData.canLay0 (.tuple [.str s, .int i]) = true := by
    show (PyData.canLay0 (.str s) && (true && true)) = true
    rw [hs] <;> rfl
  have h2 : PyData.depth (.tuple [.str s, .int i]) ≤ 64 := by
    show max 0 (max 0 0) + 1 ≤ 64
    decide
  unfold SeqAt.shaped
  rw [h1, Bool.true_and]
  exact decide_eq_true h2
theorem shaped_heap (rs : List (Int × Int)) : SeqAt.shaped (heapP rs) = true := by
  obtain ⟨h1, h2⟩ := lay_pairs rs
  have e1 : PyData.canLay0 (heapP rs) = true := h1
  have e2 : PyData.depth (heapP rs) = PyData.depthAll (rs.map pairP) + 1 := rfl
  unfold SeqAt.shaped
  rw [e1, Bool.true_and]
  exact decide_eq_true (by omega)
theorem shaped_twoL (i j : Int) : SeqAt.shaped (.list [.int i, .int j]) = true := by
  have h2 : PyData.depth (.list [.int i, .int j]) ≤ 64 := by
    show max 0 (max 0 0) + 1 ≤ 64
    decide
  unfold SeqAt.shaped
  rw [show PyData.canLay0 (.list [.int i, .int j]) = true by rfl, Bool.true_and]
  exact decide_eq_true h2
theorem sS (i : Int) : SeqAt.shaped (slipP i) = true := shaped_slip _ _ (by decide +kernel)
theorem sR (i : Int) : SeqAt.shaped (refuP i) = true := shaped_slip _ _ (by decide +kernel)
theorem pick4 {a b c d v : V} {i : Nat} {P : V → Prop} (h : [a, b, c, d][i]? = some v) (ha : P a) (hb : P b) (hc : P c) (hd : P d) : P v := by
  match i, h with
  | 0, h => exact (Option.some.inj h) ▸ ha
  | 1, h => exact (Option.some.inj h) ▸ hb
  | 2, h => exact (Option.some.inj h) ▸ hc
  | 3, h => exact (Option.some.inj h) ▸ hd
  | n + 4, h => simp at h
theorem eqv_twoL (i j : Int) : PyData.eqv (.list [.int i, .int j]) (.list [.int i, .int j]) = true := by
  show ((i == i) && ((j == j) && true)) = true
  simp
theorem eqv_pairs : ∀ rs : List (Int × Int), PyData.eqvAll (rs.map pairP) (rs.map pairP) = true
  | [] => rfl
  | r :: rs => by
    show ((((r.1 == r.1) && ((r.2 == r.2) && true))) && PyData.eqvAll (rs.map pairP) (rs.map pairP)) = true
    rw [eqv_pairs rs]
    simp
theorem eqv_heap (rs : List (Int × Int)) : PyData.eqv (heapP rs) (heapP rs) = true := eqv_pairs rs
theorem eqv_heap0 {r : Int × Int} {rs : List (Int × Int)} : PyData.eqv (heapP (r :: rs)) (heapP []) = false := rfl
theorem sh_pair {r : Int × Int} (h : r.1.natAbs < 2 ^ 30 ∧ r.2.natAbs < 2 ^ 30) : Sh (pairP r) := by
  obtain ⟨h1, h2, h3, h4⟩ := show_ints (r := [r.1, r.2]) (fun z hz => by
    rcases List.mem_cons.mp hz with e | e
    · rw [e]
      exact h.1
    · rw [List.mem_singleton.mp e]
      exact h.2)
  exact ⟨h1, h2, h3, Nat.le_trans h4 (by show 32 * 2 ≤ 1000000; decide), by show max 0 (max 0 0) + 1 ≤ 8; decide⟩
theorem sh_refu : Sh (refuP 0) := ⟨by decide +kernel, by decide +kernel, by decide +kernel, by decide +kernel, by decide +kernel⟩
/-- the game, and the drawn heap -/
structure Bare (CM : Addr) (H : Hp) (d l a m q : Addr) (A : Nat) (ts us : List (Addr × List Int)) (ps : List (Addr × Int × Int)) : Prop where
  g : Game CM H d l a m A ts us
  hp : HeapAt H q ps
  nq : ¬ dl d l q
  np : ∀ p ∈ ps, ¬ dl d l p.1
section
variable {CM : Addr} {H H' : Hp} {d l a m q g b : Addr} {A : Nat} {ts us : List (Addr × List Int)} {ps ms : List (Addr × Int × Int)} {dy : PyData}
theorem Bare.go (x : Bare CM H d l a m q A ts us ps) (D' : DealAt H' d l) (S : SB d l H H') : Bare CM H' d l a m q A ts us ps :=
  ⟨x.g.go D' S, ⟨S.kp.get x.nq x.hp.top, fun p hp => S.kp.get (x.np p hp) (x.hp.row p hp), x.hp.srt⟩, x.nq, x.np⟩
theorem Bare.same (x : Bare CM H d l a m q A ts us ps) (S : Same H H') : Bare CM H' d l a m q A ts us ps := x.go (x.g.same S).D (KP.same S).sb
theorem Bare.new {p : Addr} {o : HO} (x : Bare CM H d l a m q A ts us ps) (h : H p = none) : Bare CM (upd H p o) d l a m q A ts us ps := x.same (Same.new h)
/-- and the heap as it is passed -/
structure Lot (CM : Addr) (H : Hp) (d l a m q g b : Addr) (A : Nat) (ts us : List (Addr × List Int)) (ps ms : List (Addr × Int × Int)) (dy : PyData) : Prop where
  x : Bare CM H d l a m q A ts us ps
  hg : H g = some (.lst (ms.map fR))
  ng : ¬ dl d l g
  nb : ¬ dl d l b
  rg : ∀ p ∈ ms, p ∈ ps
  na : a ≠ g
  nt : ∀ t ∈ ts, t.1 ≠ g
  t : (H b = some (.lst (ms.map fR)) ∧ dy = .list ((ms.map (·.2)).map pairP)) ∨ (H b = some (.tup (ms.map fR)) ∧ dy = .tuple ((ms.map (·.2)).map pairP))
theorem Lot.go (x : Lot CM H d l a m q g b A ts us ps ms dy) (D' : DealAt H' d l) (S : SB d l H H') : Lot CM H' d l a m q g b A ts us ps ms dy :=
  ⟨x.x.go D' S, S.kp.get x.ng x.hg, x.ng, x.nb, x.rg, x.na, x.nt, x.t.elim (fun z => .inl ⟨S.kp.get x.nb z.1, z.2⟩) fun z => .inr ⟨S.kp.get x.nb z.1, z.2⟩⟩
theorem Lot.same (x : Lot CM H d l a m q g b A ts us ps ms dy) (S : Same H H') : Lot CM H' d l a m q g b A ts us ps ms dy := x.go (x.x.g.same S).D (KP.same S).sb
theorem Lot.new {p : Addr} {o : HO} (x : Lot CM H d l a m q g b A ts us ps ms dy) (h : H p = none) : Lot CM (upd H p o) d l a m q g b A ts us ps ms dy := x.same (Same.new h)
theorem Lot.dv (x : Lot CM H d l a m q g b A ts us ps ms dy) : Dv H (.ref b) dy := by
  have hr := dvAll_heap (H := H) (ps := ms) fun p hp => x.x.hp.row p (x.rg p hp)
  rcases x.t with ⟨h, rfl⟩ | ⟨h, rfl⟩
  · exact .lst h hr
  · exact .tup h hr
theorem Lot.items (x : Lot CM H d l a m q g b A ts us ps ms dy) : isS dy = true ∧ itemsD dy = (ms.map (·.2)).map pairP := by
  rcases x.t with ⟨h, rfl⟩ | ⟨h, rfl⟩
  · exact ⟨rfl, rfl⟩
  · exact ⟨rfl, rfl⟩
end
end Lk

set_option Elab.async false
set_option linter.all false
set_option maxRecDepth 100000
set_option maxHeartbeats 8000000
namespace Lk
open PySem L2
/-- one of a tuple -/
def spOfT : Sp := fun vs H Q _ => ∃ (d l a : Addr) (xs : List V), vs = [.ref d, .ref a] ∧ H a = some (.tup xs) ∧ ¬ dl d l a ∧ 0 < xs.length ∧ xs.length ≤ 1000 ∧ DealAt H d l ∧
  ∀ (H' : Hp) (i : Nat) (v : V), DealAt H' d l → SB d l H H' → xs[i]? = some v → Q v H'
section
variable {P : Program} {w : World} {K : PySem.W.Frag} {mg : Str → Option Value} {base : Heap}
theorem ok_ofT {f fa : Addr} {fd fda : FuncData} (A0 : Df K mg "_law_of" s_law_of f fd P_law_of) (d_law_any : Df K mg "_law_any" s_law_any fa fda P_law_any) (T : Txt mg) : FnOk P w K mg base CX0 2 f fd P_law_of spOfT := by
  have G_law_any : FnOk P w K mg base CX0 1 fa fda P_law_any spAny := ok_any d_law_any T
  refine A0.F.ok sc_law_of (fun vs H Q E h => ?_) (fun cdv A outer s H vs Q E hr h => ?_)
  · obtain ⟨d, l, a, xs, rfl, _⟩ := h
    rfl
  · obtain ⟨d, l, a, xs, rfl, hx, na, h0, h1, D, k⟩ := h
    refine ⟨_, (pss_one (ps_ret (pe_ix ix_tup (pv 1) (pe_call G_law_any (hr.mono (by decide)) rfl d_law_any.g d_law_any.F.kp d_law_any.b .nil pass0 (pa_cons (pv 0) (pa_cons (pe_callB call_len_seq (by rfl) T.len PySem.boot_len (pa_cons (pv 1) pa_nil)) pa_nil))) (fun _ _ => rfl)))), ?_⟩
    refine ⟨_, rfl, _, rfl, _, rfl, a, xs, rfl, .inr (SqT.of hx), d, l, _, rfl, by omega, by omega, D, fun H' r D' S' r0 r1 => ?_⟩
    have hx' : H' a = some (.tup xs) := S'.kp.get na hx
    have hr' : r.toNat < xs.length := by omega
    exact ⟨a, xs, r, xs[r.toNat], rfl, rfl, SqT.of hx', atI_int r0 (List.getElem?_eq_getElem hr'), k H' r.toNat _ D' S' (List.getElem?_eq_getElem hr')⟩
end
/-! ### data that is told -/
theorem dpAll_of_pairs {K : PySem.W.Frag} {H : Hp} : ∀ {xs : List V} {rs : List (Int × Int)}, DvAll H xs (rs.map pairP) → DpAll K H xs (rs.map pairP)
  | _, [], .nil => .nil
  | _, r :: rs, .cons (.tup h (.cons (.int _) (.cons (.int _) .nil))) t => .cons (.tup (SqT.of h) (.cons (.int _) (.cons (.int _) .nil))) (dpAll_of_pairs t)
theorem dvAll_pairs_nl {H H' : Hp} (n : NL H H') : ∀ {xs : List V} {rs : List (Int × Int)}, DvAll H xs (rs.map pairP) → DvAll H' xs (rs.map pairP)
  | _, [], .nil => .nil
  | _, r :: rs, .cons (.tup h (.cons (.int _) (.cons (.int _) .nil))) t => .cons (.tup (n _ _ h (fun xs e => by cases e)) (.cons (.int _) (.cons (.int _) .nil))) (dvAll_pairs_nl n t)
/-- what is told: slips, or which error -/
inductive Told : PyData → Prop
  | heap (rs : List (Int × Int)) (h : ∀ r ∈ rs, r.1.natAbs < 2 ^ 30 ∧ r.2.natAbs < 2 ^ 30) (hl : rs.length ≤ 10000) : Told (heapP rs)
  | slip (k : Int) (h : k.natAbs < 2 ^ 30) : Told (slipP k)
  | refu : Told (refuP 0)
theorem Told.dp {K : PySem.W.Frag} {H : Hp} {v : V} {d : PyData} (t : Told d) (x : Dv H v d) : Dp K H v d := by
  cases t with
  | heap rs h hl =>
    cases x with
    | tup h1 h2 => exact .tup (SqT.of h1) (dpAll_of_pairs h2)
  | slip k h =>
    cases x with
    | tup h1 h2 =>
      cases h2 with
      | cons a t =>
        cases a
        cases t with
        | cons b u =>
          cases b
          cases u
          exact .tup (SqT.of h1) (.cons (.str _) (.cons (.int _) .nil))
  | refu =>
    cases x with
    | tup h1 h2 =>
      cases h2 with
      | cons a t =>
        cases a
        cases t with
        | cons b u =>
          cases b
          cases u
          exact .tup (SqT.of h1) (.cons (.str _) (.cons (.int _) .nil))
theorem Told.ref {H : Hp} {v : V} {d : PyData} (t : Told d) (x : Dv H v d) : ∃ a, v = .ref a := by
  cases t with
  | heap => cases x with | tup _ _ => exact ⟨_, rfl⟩
  | slip => cases x with | tup _ _ => exact ⟨_, rfl⟩
  | refu => cases x with | tup _ _ => exact ⟨_, rfl⟩
theorem sh_slip {k : Int} (h : k.natAbs < 2 ^ 30) : Sh (slipP k) := by
  obtain ⟨h1, h2⟩ := show_int h
  have h3 := weight_int h
  refine ⟨?_, rfl, ?_, ?_, by show max 0 (max 0 0) + 1 ≤ 8; decide⟩
  · show ((PyData.str "slip").showable && ((PyData.int k).showable && true)) = true
    rw [h1] <;> decide +kernel
  · show ((PyData.str "slip").leavesShort 13 && ((PyData.int k).leavesShort 13 && true)) = true
    rw [h2] <;> decide +kernel
  · show (PyData.str "slip").weight + 1 + ((PyData.int k).weight + 1 + 0) ≤ 1000000
    have : (PyData.str "slip").weight ≤ 1000 := by decide +kernel
    omega
theorem Told.sh {d : PyData} (t : Told d) : Sh d := by
  cases t with
  | heap rs h hl => exact sh_heap h hl
  | slip k h => exact sh_slip h
  | refu => exact sh_refu
section
variable {A : Int} {rs : List (Int × Int)} {dx : PyData} {t c : Int}
theorem getD_in (hb : ∀ r ∈ rs, r.1.natAbs < 2 ^ 30 ∧ r.2.natAbs < 2 ^ 30) (j : Nat) : (rs.getD j (0, 0)).1.natAbs < 2 ^ 30 ∧ (rs.getD j (0, 0)).2.natAbs < 2 ^ 30 := by
  rw [List.getD_eq_getElem?_getD]
  cases e : rs[j]? with
  | none => exact ⟨by decide, by decide⟩
  | some r => exact hb r (List.mem_of_getElem? e)
theorem told_due {form : Int} (hb : ∀ r ∈ rs, r.1.natAbs < 2 ^ 30 ∧ r.2.natAbs < 2 ^ 30) (hl : rs.length ≤ 9000) (ht : t.natAbs < 2 ^ 30) (hc : c.natAbs < 2 ^ 30) : Told (dueD form rs t c) := by
  unfold dueD
  cases e : atT rs t with
  | none => exact .refu
  | some j =>
    show Told (if form = 1 then (if j + 1 = rs.length then refuP 0 else heapP (swD rs j)) else if form = 0 then heapP (exD rs j (t, c)) else heapP (stD rs j))
    have hz : (rs.take j).length ≤ 9000 := by rw [List.length_take]; omega
    split
    · split
      · exact .refu
      · refine .heap _ (fun r hr => ?_) ?_
        · unfold swD at hr
          rcases List.mem_append.mp hr with h | h
          · rcases List.mem_append.mp h with h | h
            · exact hb r (List.mem_of_mem_take h)
            · rcases List.mem_cons.mp h with h | h
              · rw [h]
                exact ⟨(getD_in hb j).1, (getD_in hb (j + 1)).2⟩
              · rw [List.mem_singleton.mp h]
                exact ⟨(getD_in hb (j + 1)).1, (getD_in hb j).2⟩
          · exact hb r (List.mem_of_mem_drop h)
        · unfold swD
          rw [List.length_append, List.length_append, List.length_take, List.length_drop]
          show min j rs.length + 2 + (rs.length - (j + 2)) ≤ 10000
          omega
    · split
      · refine .heap _ (fun r hr => ?_) ?_
        · unfold exD at hr
          rcases List.mem_append.mp hr with h | h
          · rcases List.mem_append.mp h with h | h
            · exact hb r (List.mem_of_mem_take h)
            · rw [List.mem_singleton.mp h]
              exact ⟨ht, hc⟩
          · exact hb r (List.mem_of_mem_drop h)
        · unfold exD
          rw [List.length_append, List.length_append, List.length_take, List.length_drop]
          show min j rs.length + 1 + (rs.length - (j + 1)) ≤ 10000
          omega
      · refine .heap _ (fun r hr => ?_) ?_
        · unfold stD at hr
          rcases List.mem_append.mp hr with h | h
          · exact hb r (List.mem_of_mem_take h)
          · exact hb r (List.mem_of_mem_drop h)
        · unfold stD
          rw [List.length_append, List.length_take, List.length_drop]
          omega
theorem plRes_int (h : 0 ≤ t) : plRes rs (.int t) = atT rs t := by
  unfold plRes
  exact if_pos (decide_eq_true h)
theorem ask_due0 (e : heapRes A dx = none) (ht : 0 ≤ t) (hc : 0 ≤ c ∧ c < A) : askD A 0 rs dx (pairP (t, c)) = dueD 0 rs t c := by
  unfold askD
  rw [e]
  show (if (0 : Int) = 0 then ask0 A rs (pairP (t, c)) else _) = _
  rw [if_pos rfl]
  unfold ask0 dueD
  rw [if_neg (by rw [isP_ok (r := (t, c)) ⟨ht, hc⟩]; decide)]
  show (match atT rs t with
    | none => refuP 0
    | some j => heapP (exD rs j (t, c))) = _
  cases e : atT rs t with
  | none => rfl
  | some j =>
    show _ = (if (0 : Int) = 1 then _ else if (0 : Int) = 0 then heapP (exD rs j (t, c)) else _)
    rw [if_neg (by decide), if_pos rfl]
theorem ask_due1 (e : heapRes A dx = none) (ht : 0 ≤ t) : askD A 1 rs dx (.int t) = dueD 1 rs t c := by
  unfold askD
  rw [e]
  show (if (1 : Int) = 0 then _ else if (1 : Int) = 1 then ask1 rs (.int t) else _) = _
  rw [if_neg (by decide), if_pos rfl]
  unfold ask1 dueD
  rw [plRes_int ht]
  cases e : atT rs t with
  | none => rfl
  | some j =>
    show _ = (if (1 : Int) = 1 then _ else _)
    rw [if_pos rfl]
theorem ask_due2 (e : heapRes A dx = none) (ht : 0 ≤ t) : askD A 2 rs dx (.int t) = dueD 2 rs t c := by
  unfold askD
  rw [e]
  show (if (2 : Int) = 0 then _ else if (2 : Int) = 1 then _ else ask2 rs (.int t)) = _
  rw [if_neg (by decide), if_neg (by decide)]
  unfold ask2 dueD
  rw [plRes_int ht]
  cases e : atT rs t with
  | none => rfl
  | some j =>
    show _ = (if (2 : Int) = 1 then _ else if (2 : Int) = 0 then _ else _)
    rw [if_neg (by decide), if_neg (by decide)]
theorem ask_bad {form : Int} {dy : PyData} {k : Nat} (e : heapRes A dx = some k) : askD A form rs dx dy = slipP (k : Int) := by
  unfold askD
  rw [e]
theorem ask_no0 {dy : PyData} (e : heapRes A dx = none) (h : isP A dy = false) : askD A 0 rs dx dy = slipP 0 := by
  unfold askD
  rw [e]
  show (if (0 : Int) = 0 then ask0 A rs dy else _) = _
  rw [if_pos rfl]
  unfold ask0
  rw [if_pos h]
theorem ask_no1 {dy : PyData} (e : heapRes A dx = none) (h : plRes rs dy = none) : askD A 1 rs dx dy = refuP 0 := by
  unfold askD
  rw [e]
  show (if (1 : Int) = 0 then _ else if (1 : Int) = 1 then ask1 rs dy else _) = _
  rw [if_neg (by decide), if_pos rfl]
  unfold ask1
  rw [h]
theorem ask_no2 {dy : PyData} (e : heapRes A dx = none) (h : plRes rs dy = none) : askD A 2 rs dx dy = refuP 0 := by
  unfold askD
  rw [e]
  show (if (2 : Int) = 0 then _ else if (2 : Int) = 1 then _ else ask2 rs dy) = _
  rw [if_neg (by decide), if_neg (by decide)]
  unfold ask2
  rw [h]
theorem plRes_no {dy : PyData} (h : isN dy = false) : plRes rs dy = none := by
  unfold plRes
  rw [if_neg (by rw [h]; decide)]
end
theorem pick7 {a b c d e f g v : V} {k : Nat} {P : V → Prop} (q : [a, b, c, d, e, f, g][k]? = some v) (ha : P a) (hb : P b) (hc : P c) (hd : P d) (he : P e) (hf : P f) (hg : P g) : P v := by
  match k, q with
  | 0, q => exact (Option.some.inj q) ▸ ha
  | 1, q => exact (Option.some.inj q) ▸ hb
  | 2, q => exact (Option.some.inj q) ▸ hc
  | 3, q => exact (Option.some.inj q) ▸ hd
  | 4, q => exact (Option.some.inj q) ▸ he
  | 5, q => exact (Option.some.inj q) ▸ hf
  | 6, q => exact (Option.some.inj q) ▸ hg
  | n + 7, q => simp at q
/-- and what is kept, and the forms that are to come -/
structure Big (CM : Addr) (H : Hp) (d l a m q g b kk fl : Addr) (A : Nat) (ts us : List (Addr × List Int)) (ps ms : List (Addr × Int × Int)) (dy : PyData) (fs : List Int) : Prop where
  L : Lot CM H d l a m q g b A ts us ps ms dy
  hk : H kk = some (.tup (ms.map fR))
  nk : ¬ dl d l kk
  hf : H fl = some (.lst (fs.map V.int))
  nf : ¬ dl d l fl
section
variable {CM : Addr} {H H' : Hp} {d l a m q g b kk fl : Addr} {A : Nat} {ts us : List (Addr × List Int)} {ps ms : List (Addr × Int × Int)} {dy : PyData} {fs : List Int}
theorem Big.go (x : Big CM H d l a m q g b kk fl A ts us ps ms dy fs) (D' : DealAt H' d l) (S : SB d l H H') : Big CM H' d l a m q g b kk fl A ts us ps ms dy fs := ⟨x.L.go D' S, S.kp.get x.nk x.hk, x.nk, S.kp.get x.nf x.hf, x.nf⟩
theorem Big.same (x : Big CM H d l a m q g b kk fl A ts us ps ms dy fs) (S : Same H H') : Big CM H' d l a m q g b kk fl A ts us ps ms dy fs := x.go (x.L.x.g.same S).D (KP.same S).sb
theorem Big.new {p : Addr} {o : HO} (x : Big CM H d l a m q g b kk fl A ts us ps ms dy fs) (h : H p = none) : Big CM (upd H p o) d l a m q g b kk fl A ts us ps ms dy fs := x.same (Same.new h)
end
section
variable {K : PySem.W.Frag} {te : TE} {σ : St} {H1 : Hp} {D : Addr} {Qd : Hp → Prop}
/-- a comprehension over a tuple of pairs that makes pairs -/
theorem lcPairs {i j : Nat} {a : Addr} {ps : List (Addr × Int × Int)} (f : Int × Int → Int × Int) (hD : H1 D = none) (hn : ps.length ≤ 1000000) (ha : H1 a = some (.tup (ps.map fR))) (hr : ∀ p ∈ ps, H1 p.1 = some (.tup [.int p.2.1, .int p.2.2]))
    (hw : ∀ x y : V, wipe (((wipe σ [i, j]).set i (some x)).set j (some y)) [i, j] = wipe σ [i, j])
    (hs : ∀ p ∈ ps, ∀ H, Same H1 H → ∀ Q : VK, (∀ H4 b, Same H H4 → H b = none → H4 b = some (.tup [.int (f p.2).1, .int (f p.2).2]) → Q (.ref b) H4) → te (((wipe σ [i, j]).set i (some (.int p.2.1))).set j (some (.int p.2.2))) H Q)
    (hd : ∀ (H' : Hp) (qs : List (Addr × Int × Int)), H' D = some (.lst (qs.map fR)) → (∀ q ∈ qs, H' q.1 = some (.tup [.int q.2.1, .int q.2.2])) → qs.map (·.2) = (ps.map (·.2)).map f → Same H1 H' → Qd H') :
    ∃ W : Nat → Nat → Hp → Prop, (∃ m, W 0 m (upd H1 D (.lst []))) ∧ ∀ k m H, W k m H →
      ((Itt K a).stop k H ∧ Qd H) ∨ ((Itt K a).go k H ∧ ∃ Nx : Hp → Prop, (∀ H', Nx H' → ∃ m', m' < m ∧ W (k + 1) m' H') ∧ ∀ x H', (Itt K a).yld k H x H' → gTup K 2 (gCons (gName i) (gCons (gName j) gNil)) x (wipe σ [i, j]) H' fun σ2 H2 => wipe σ2 [i, j] = wipe σ [i, j] ∧ tYes σ2 H2 fun b H3 =>
        if b = true then te σ2 H3 fun y H4 => ∃ acc, H4 D = some (.lst acc) ∧ acc.length < sizeLine ∧ Nx (upd H4 D (.lst (acc ++ [y]))) else Nx H3) := by
  refine lc_tup (xs := ps.map fR) (fun k H => Same H1 H ∧ ∃ qs : List (Addr × Int × Int), H D = some (.lst (qs.map fR)) ∧ (∀ q ∈ qs, H q.1 = some (.tup [.int q.2.1, .int q.2.2])) ∧ qs.map (·.2) = ((ps.take k).map (·.2)).map f) ⟨(KP.new (S := fun _ => False) hD).toSame, [], upd_same, (fun q hq => by cases hq), rfl⟩ (fun k H _ x => SqT.of (x.1 _ _ ha)) (fun k x0 H hi x => ?_) (fun H x => ?_)
  · rw [List.getElem?_map] at hi
    obtain ⟨p, hp, rfl⟩ : ∃ u, ps[k]? = some u ∧ V.ref u.1 = x0 := by
      cases e : ps[k]? with
      | none => rw [e] at hi; cases hi
      | some u => rw [e] at hi; exact ⟨u, rfl, Option.some.inj hi⟩
    have hm := mem_of_get hp
    obtain ⟨S, qs, h1, h2, h3⟩ := x
    refine ⟨p.1, _, rfl, SqT.of (S _ _ (hr p hm)), rfl, _, _, rfl, _, _, rfl, rfl, hw _ _, iteT (B := Same H1 H ∧ ∃ qs : List (Addr × Int × Int), H D = some (.lst (qs.map fR)) ∧ (∀ q ∈ qs, H q.1 = some (.tup [.int q.2.1, .int q.2.2])) ∧ qs.map (·.2) = ((ps.take (k + 1)).map (·.2)).map f) ?_⟩
    refine hs p hm H S _ fun H4 b S4 hb0 hb => ⟨_, S4 _ _ h1, ?_, ((KP.same (S := fun _ => False) (S.trans S4)).mut hD).toSame, qs ++ [(b, f p.2)], ?_, fun q hq => ?_, ?_⟩
    · have e := congrArg List.length h3
      rw [List.length_map, List.length_map, List.length_map, List.length_take] at e
      rw [List.length_map, e]
      exact Nat.lt_of_le_of_lt (Nat.le_trans (Nat.min_le_right _ _) hn) (by decide)
    · rw [upd_same, List.map_append]
      rfl
    · have ne : ∀ {c : Addr} {ys : List V}, H4 c = some (.tup ys) → c ≠ D := fun h e => by
        rw [e, S4 _ _ h1] at h
        cases h
      rcases List.mem_append.mp hq with h | h
      · have h4 := S4 _ _ (h2 q h)
        rw [upd_ne (ne h4)]
        exact h4
      · rw [List.mem_singleton.mp h, upd_ne (ne hb)]
        exact hb
    · rw [take_next hp, List.map_append, List.map_append, List.map_append, h3]
      rfl
  · obtain ⟨S, qs, h1, h2, h3⟩ := x
    rw [List.length_map, List.take_length] at h3
    exact hd H qs h1 h2 h3 S
end
theorem kTup_any {K : PySem.W.Frag} {H : Hp} {b : Addr} {xs : List V} {Q : VK} (h : H b = some (.lst xs) ∨ H b = some (.tup xs)) (k : ∀ H' p, Same H H' → H' p = some (.tup xs) → Q (.ref p) H') : kTup K (.ref b) H Q := by
  rcases h with h | h
  · exact .inl ⟨b, xs, rfl, SqL.of h, fun q hq => k _ q (Same.new hq) upd_same⟩
  · exact .inr ⟨b, xs, rfl, SqT.of h, k H b (Same.refl _) h⟩
theorem dl_tup {H : Hp} {d l c : Addr} {xs : List V} (D : DealAt H d l) (h : H c = some (.tup xs)) : ¬ dl d l c := fun e => by
  obtain ⟨bs, b, x⟩ := D
  rcases e with rfl | rfl
  · have := x.hd
    rw [h] at this
    cases this
  · have := x.hl
    rw [h] at this
    cases this
end Lk

set_option Elab.async false
set_option linter.all false
set_option maxRecDepth 100000
set_option maxHeartbeats 8000000
namespace Lk
open PySem L2
abbrev s_law : Stmt := top 37
abbrev N_law : List Str := ["script", "deal", "commands", "steps", "machine", "heap", "given", "told", "latest", "kept", "form", "turn", "time", "command", "value", "bad", "place", "rows", "strange", "near", "later"]
abbrev P_law : List Str := ["script"]
theorem sc_law : FnScope N_law P_law (defScope s_law) := ⟨rfl, rfl, rfl, by decide +kernel, rfl, by decide +kernel, by decide +kernel⟩
theorem joinPar {te : TE} {tr : TA} {rest : TS} {D : Ends} {i j : Nat} {σ : St} {H : Hp} {f : St → Hp → Prop} (e : f = tSeq (tPar i j (tCons te tr)) rest D) (R : V → Hp → Prop) (h : ∀ Q' : VK, (∀ v H', R v H' → Q' v H') → te σ H Q')
    (k : ∀ v H', R v H' → tr σ H' fun xs H2 => ∃ u w, v :: xs = [u, w] ∧ rest D ((σ.set i (some u)).set j (some w)) H2) : f σ H := by
  subst e
  exact h _ k
def spLaw (K : PySem.W.Frag) : Sp := fun vs H Q _ => ∃ (a : Addr) (ns : List Int), vs = [.ref a] ∧ SqL K H a (ns.map V.int) ∧ ns.length ≤ 63 ∧ ∀ H', Q (.bl true) H'
section
variable {P : Program} {w : World} {K : PySem.W.Frag} {mg : Str → Option Value} {base : Heap} {CM CE CI CR fI : Addr} {fdI : FuncData}
theorem ok_law {f fdr fma fan fof fhe fmi fas fdu fba : Addr} {fd gdr gma gan gof ghe gmi gas gdu gba : FuncData} (A0 : Df K mg "law" s_law f fd P_law)
    (d_law_draw : Df K mg "_law_draw" s_law_draw fdr gdr P_law_draw) (d_law_machine : Df K mg "_law_machine" s_law_machine fma gma P_law_machine) (d_law_any : Df K mg "_law_any" s_law_any fan gan P_law_any) (d_law_of : Df K mg "_law_of" s_law_of fof gof P_law_of) (d_law_heap : Df K mg "_law_heap" s_law_heap fhe ghe P_law_heap)
    (d_law_mixed : Df K mg "_law_mixed" s_law_mixed fmi gmi P_law_mixed) (d_law_asked : Df K mg "_law_asked" s_law_asked fas gas P_law_asked) (d_law_due : Df K mg "_law_due" s_law_due fdu gdu P_law_due) (d_law_bad_slip : Df K mg "_law_bad_slip" s_law_bad_slip fba gba P_law_bad_slip)
    (G_law_machine : FnOk P w K mg base CX0 4 fma gma P_law_machine spMachine) (G_law_asked : FnOk P w K mg base CX0 9 fas gas P_law_asked (spAsked CM)) (G_law_due : FnOk P w K mg base CX0 2 fdu gdu P_law_due spLDue)
    (MC : McT K mg CM fI fdI) (GI : FnOk P w K mg base (L2.CX P w) 7 fI fdI P_Machine___init (spInit CM CE)) (T : Txt mg) : FnG P w K mg base 10 f fd P_law (spLaw K) := by
  have G_law_any : FnOk P w K mg base CX0 1 fan gan P_law_any spAny := ok_any d_law_any T
  have G_law_draw : FnOk P w K mg base CX0 1 fdr gdr P_law_draw (spDraw K) := ok_draw d_law_draw T
  have G_law_of : FnOk P w K mg base CX0 2 fof gof P_law_of spOf := ok_of d_law_of d_law_any T
  have G_law_ofT : FnOk P w K mg base CX0 2 fof gof P_law_of spOfT := ok_ofT d_law_of d_law_any T
  have G_law_mixedP : FnOk P w K mg base CX0 2 fmi gmi P_law_mixed (spMixedP K) := ok_mixedP d_law_mixed d_law_any T
  have G_law_mixed : FnOk P w K mg base CX0 2 fmi gmi P_law_mixed (spMixed K) := ok_mixed d_law_mixed d_law_any T
  have G_law_heap : FnOk P w K mg base CX0 2 fhe ghe P_law_heap spLHeap := ok_lheap d_law_heap d_law_any T
  have G_law_bad_slip : FnOk P w K mg base CX0 3 fba gba P_law_bad_slip spBad := ok_bad d_law_bad_slip d_law_of d_law_any T
  refine Fun.okG A0.F sc_law (fun vs H Q E h => ?_) (fun cdv Ar outer s H vs Q E quiet hr h => ?_)
  · obtain ⟨a, ns, rfl, _⟩ := h
    rfl
  · obtain ⟨sa, sn, rfl, hsa, hsn, k⟩ := h
    have hu : Ar.units + 3 + 16 < cLine := by have := hr.un; simp only [Around.deeper] at this; omega
    have hu2 : Ar.units + 3 + 64 < cLine := by have := hr.un; simp only [Around.deeper] at this; omega
    have hq : Ar.guards = some [] := quiet
    refine ⟨_, (pss_cons (ps_set (i := 1) sc_law.nd rfl (Or.inl rfl) (pe_call G_law_draw (hr.mono (by decide)) rfl d_law_draw.g d_law_draw.F.kp d_law_draw.b .nil pass0 (pa_cons (pv 0) (pa_cons pe_int pa_nil))))
    (pss_cons (ps_asg (pe_call G_law_machine (hr.mono (by decide)) rfl d_law_machine.g d_law_machine.F.kp d_law_machine.b .nil pass0 (pa_cons (pv 1) (pa_cons pe_int pa_nil))) (pg_tup rfl (pgs_cons (pg_name (i := 2) sc_law.nd rfl (Or.inl rfl)) (pgs_cons (pg_name (i := 3) sc_law.nd rfl (Or.inl rfl)) pgs_nil))))
    (pss_cons (ps_asg (pe_tup (pa_cons (pe_make MC.mM GI (hr.mono (by decide)) rfl MC.g MC.b .nil (pass_never (P := P) (w := w)) (pa_cons (pv 2) (pa_cons (pv 3) pa_nil))) (pa_cons (pe_call G_law_heap (hr.mono (by decide)) rfl d_law_heap.g d_law_heap.F.kp d_law_heap.b .nil pass0 (pa_cons (pv 1) (pa_cons (pv 2) (pa_cons (pe_call G_law_any (hr.mono (by decide)) rfl d_law_any.g d_law_any.F.kp d_law_any.b .nil pass0 (pa_cons (pv 1) (pa_cons pe_int pa_nil))) pa_nil)))) pa_nil))) (pg_tup rfl (pgs_cons (pg_name (i := 4) sc_law.nd rfl (Or.inl rfl)) (pgs_cons (pg_name (i := 5) sc_law.nd rfl (Or.inr rfl)) pgs_nil))))
    (pss_cons (ps_set (i := 6) sc_law.nd rfl (Or.inl rfl) (pe_call G_law_mixedP (hr.mono (by decide)) rfl d_law_mixed.g d_law_mixed.F.kp d_law_mixed.b .nil pass0 (pa_cons (pv 1) (pa_cons (pv 5) pa_nil))))
    (pss_cons (ps_set (i := 7) sc_law.nd rfl (Or.inl rfl) (pe_ifExp (pt_cmpR op_eq (pe_call G_law_any (hr.mono (by decide)) rfl d_law_any.g d_law_any.F.kp d_law_any.b .nil pass0 (pa_cons (pv 1) (pa_cons pe_int pa_nil))) pe_int (nomark _)) (pv 6) (pe_tupleOf (by rfl) T.tuple (pv 6))))
    (pss_cons (ps_par (i := 8) (j := 9) rfl sc_law.nd rfl rfl (by decide) rfl rfl (pa_cons (pe_ifExp (pt_cmpR (op_neD hu2) (pv 5) (pe_tup pa_nil) (nomark _)) (pe_op op_add (pe_ix ix_tup (pe_ix ix_tup (pv 5) (pe_un un_neg pe_int) (fun _ _ => rfl)) pe_int (fun _ _ => rfl)) pe_int) pe_int) (pa_cons (pe_tupleOf (by rfl) T.tuple (pv 6)) pa_nil)) rfl)
    (pss_cons (ps_for PassesOwn.never rfl (pi_list (pe_call G_law_mixed (hr.mono (by decide)) rfl d_law_mixed.g d_law_mixed.F.kp d_law_mixed.b .nil pass0 (pa_cons (pv 1) (pa_cons (pe_lst (pa_cons pe_int (pa_cons pe_int (pa_cons pe_int pa_nil)))) pa_nil)))) (pg_name (i := 10) sc_law.nd rfl (Or.inl rfl))
      (pss_one (ps_for PassesOwn.never rfl (pi_range1 rfl T.range (pa_cons pe_int pa_nil)) (pg_name (i := 11) sc_law.nd rfl (Or.inl rfl))
        (pss_cons (ps_set (i := 12) sc_law.nd rfl (Or.inl rfl) (pe_ifExp (PW.pt (pw_or (pt_cmpR (op_eqD hu2) (pv 5) (pe_tup pa_nil) (nomark _)) (pw_or1 (pt_cmpR op_eq (pv 11) pe_int (nomark _))))) (pe_call G_law_any (hr.mono (by decide)) rfl d_law_any.g d_law_any.F.kp d_law_any.b .nil pass0 (pa_cons (pv 1) (pa_cons (pv 8) pa_nil))) (pe_ix ix_tup (pe_call G_law_ofT (hr.mono (by decide)) rfl d_law_of.g d_law_of.F.kp d_law_of.b .nil pass0 (pa_cons (pv 1) (pa_cons (pv 5) pa_nil))) pe_int (fun _ _ => rfl))))
        (pss_cons (ps_set (i := 13) sc_law.nd rfl (Or.inl rfl) (pe_call G_law_any (hr.mono (by decide)) rfl d_law_any.g d_law_any.F.kp d_law_any.b .nil pass0 (pa_cons (pv 1) (pa_cons (pv 2) pa_nil))))
        (pss_cons (ps_set (i := 14) sc_law.nd rfl (Or.inl rfl) (pe_ifExp (pt_cmpR op_eq (pv 10) pe_int (nomark _)) (pe_tup (pa_cons (pv 12) (pa_cons (pv 13) pa_nil))) (pv 12)))
        (pss_one (ps_if (pt_cmpR op_ne (pe_callB (call_repr hq hu) (by rfl) T.repr (by decide +kernel) (pa_cons (pe_call G_law_asked (hr.mono (by decide)) rfl d_law_asked.g d_law_asked.F.kp d_law_asked.b .nil pass0 (pa_cons (pv 4) (pa_cons (pv 10) (pa_cons (pv 7) (pa_cons (pv 14) pa_nil))))) pa_nil)) (pe_callB (call_repr hq hu) (by rfl) T.repr (by decide +kernel) (pa_cons (pe_call G_law_due (hr.mono (by decide)) rfl d_law_due.g d_law_due.F.kp d_law_due.b .nil pass0 (pa_cons (pv 10) (pa_cons (pv 5) (pa_cons (pv 12) (pa_cons (pv 13) pa_nil))))) pa_nil)) (nomark _)) (pss_one (ps_ret pe_bl)) pss_nil))))))))
    (pss_cons (ps_if (PW.pt (pw_or (pt_cmpR (op_neD hu2) (pe_tupleOf (by rfl) T.tuple (pv 6)) (pv 9) (nomark _)) (pw_or1 (pt_cmpR (op_neD hu2) (pe_tupleOf (by rfl) T.tuple (pv 7)) (pv 9) (nomark _))))) (pss_one (ps_ret pe_bl)) pss_nil)
    (pss_cons (ps_par (i := 15) (j := 16) rfl sc_law.nd rfl rfl (by decide) rfl rfl (pa_cons (pe_call G_law_bad_slip (hr.mono (by decide)) rfl d_law_bad_slip.g d_law_bad_slip.F.kp d_law_bad_slip.b .nil pass0 (pa_cons (pv 1) (pa_cons (pv 2) (pa_cons (pe_call G_law_any (hr.mono (by decide)) rfl d_law_any.g d_law_any.F.kp d_law_any.b .nil pass0 (pa_cons (pv 1) (pa_cons (pv 8) pa_nil))) pa_nil)))) (pa_cons (pe_call G_law_any (hr.mono (by decide)) rfl d_law_any.g d_law_any.F.kp d_law_any.b .nil pass0 (pa_cons (pv 1) (pa_cons (pe_op op_add (pe_callB call_len_seq (by rfl) T.len PySem.boot_len (pa_cons (pv 5) pa_nil)) pe_int) pa_nil))) pa_nil)) rfl)
    (pss_cons (ps_set (i := 17) sc_law.nd rfl (Or.inl rfl) (pe_op op_cat (pe_op op_cat (pe_callTy call_list_of (by rfl) T.list (by decide +kernel) (pa_cons (pe_slice sl_tupA (pv 5) po_none (po_some (pv 16))) pa_nil)) (pe_lst (pa_cons (pv 15) pa_nil))) (pe_callTy call_list_of (by rfl) T.list (by decide +kernel) (pa_cons (pe_slice sl_tupA (pv 5) (po_some (pv 16)) po_none) pa_nil))))
    (pss_cons (ps_set (i := 18) sc_law.nd rfl (Or.inl rfl) (pe_call G_law_of (hr.mono (by decide)) rfl d_law_of.g d_law_of.F.kp d_law_of.b .nil pass0 (pa_cons (pv 1) (pa_cons (pe_lst (pa_cons (pe_un un_neg pe_int) (pa_cons pe_non (pa_cons pe_bl (pa_cons pe_bl (pa_cons pe_str (pa_cons (pe_tup (pa_cons pe_int pa_nil)) (pa_cons (pe_op op_add (pv 8) pe_int) pa_nil)))))))) pa_nil))))
    (pss_cons (ps_for PassesOwn.never rfl (pi_range1 rfl T.range (pa_cons pe_int pa_nil)) (pg_name (i := 10) sc_law.nd rfl (Or.inl rfl))
      (pss_one (ps_if (pt_cmpR op_ne (pe_callB (call_repr hq hu) (by rfl) T.repr (by decide +kernel) (pa_cons (pe_call G_law_asked (hr.mono (by decide)) rfl d_law_asked.g d_law_asked.F.kp d_law_asked.b .nil pass0 (pa_cons (pv 4) (pa_cons (pv 10) (pa_cons (pv 17) (pa_cons (pe_ifExp (pt_cmpR op_eq (pv 10) pe_int (nomark _)) (pv 15) (pv 18)) pa_nil))))) pa_nil)) (pe_callB (call_repr hq hu) (by rfl) T.repr (by decide +kernel) (pa_cons (pe_tup (pa_cons pe_str (pa_cons (pv 16) pa_nil))) pa_nil)) (nomark _)) (pss_one (ps_ret pe_bl)) pss_nil)))
    (pss_cons (ps_if (pt_cmpR op_ne (pe_callB (call_repr hq hu) (by rfl) T.repr (by decide +kernel) (pa_cons (pe_call G_law_asked (hr.mono (by decide)) rfl d_law_asked.g d_law_asked.F.kp d_law_asked.b .nil pass0 (pa_cons (pv 4) (pa_cons pe_int (pa_cons (pv 7) (pa_cons (pv 15) pa_nil))))) pa_nil)) (pe_callB (call_repr hq hu) (by rfl) T.repr (by decide +kernel) (pa_cons (pe_tup (pa_cons pe_str (pa_cons pe_int pa_nil))) pa_nil)) (nomark _)) (pss_one (ps_ret pe_bl)) pss_nil)
    (pss_cons (ps_if (pt_cmpR op_ne (pe_callB (call_repr hq hu) (by rfl) T.repr (by decide +kernel) (pa_cons (pe_call G_law_asked (hr.mono (by decide)) rfl d_law_asked.g d_law_asked.F.kp d_law_asked.b .nil pass0 (pa_cons (pv 4) (pa_cons pe_int (pa_cons (pv 7) (pa_cons (pv 18) pa_nil))))) pa_nil)) (pe_callB (call_repr hq hu) (by rfl) T.repr (by decide +kernel) (pa_cons (pe_tup (pa_cons pe_str (pa_cons pe_int pa_nil))) pa_nil)) (nomark _)) (pss_one (ps_ret pe_bl)) pss_nil)
    (pss_cons (ps_if (pt_cmpR op_ne (pe_callB (call_repr hq hu) (by rfl) T.repr (by decide +kernel) (pa_cons (pe_call G_law_asked (hr.mono (by decide)) rfl d_law_asked.g d_law_asked.F.kp d_law_asked.b .nil pass0 (pa_cons (pv 4) (pa_cons pe_int (pa_cons (pv 7) (pa_cons (pv 18) pa_nil))))) pa_nil)) (pe_callB (call_repr hq hu) (by rfl) T.repr (by decide +kernel) (pa_cons (pe_tup (pa_cons pe_str (pa_cons pe_int pa_nil))) pa_nil)) (nomark _)) (pss_one (ps_ret pe_bl)) pss_nil)
    (pss_cons (ps_setLc (i := 19) (own := [("time", 12), ("command", 13)]) (g := gTup K 2 (gCons (gName 12) (gCons (gName 13) gNil))) (tt := tYes) (te := tTup (tCons (tOp (rI0 fun i j => V.int (i + j)) (tOp (rI0 fun i j => V.int (i - j)) (tVar 12) (tOp (rIxT K) (tOp (rIxT K) (tVar 5) (tC (.int 0))) (tC (.int 0)))) (tC (.int 1))) (tCons (tVar 13) tNil))) rfl sc_law.nd rfl rfl (sw_true rfl rfl rfl (by decide +kernel)) (pi_tup (pv 5)) (blkOk_by (N := N_law) (sc := defScope s_law) (by decide +kernel)) (fun _ _ _ _ _ => (pg_tup rfl (pgs_cons (pg_name (i := 12) sc_law.nd rfl (Or.inl rfl)) (pgs_cons (pg_name (i := 13) sc_law.nd rfl (Or.inl rfl)) pgs_nil)))) (fun _ _ _ _ _ => pts_nil) (fun _ _ _ _ _ => (pe_tup (pa_cons (pe_op op_add (pe_op op_sub (pv 12) (pe_ix ix_tup (pe_ix ix_tup (pv 5) pe_int (fun _ _ => rfl)) pe_int (fun _ _ => rfl))) pe_int) (pa_cons (pv 13) pa_nil)))))
    (pss_cons (ps_if (pt_cmpR op_ne (pe_callB (call_repr hq hu) (by rfl) T.repr (by decide +kernel) (pa_cons (pe_call G_law_asked (hr.mono (by decide)) rfl d_law_asked.g d_law_asked.F.kp d_law_asked.b .nil pass0 (pa_cons (pv 4) (pa_cons (pe_op op_add pe_int (pe_call G_law_any (hr.mono (by decide)) rfl d_law_any.g d_law_any.F.kp d_law_any.b .nil pass0 (pa_cons (pv 1) (pa_cons pe_int pa_nil)))) (pa_cons (pv 19) (pa_cons pe_bl pa_nil))))) pa_nil)) (pe_callB (call_repr hq hu) (by rfl) T.repr (by decide +kernel) (pa_cons (pe_tup (pa_cons pe_str (pa_cons pe_int pa_nil))) pa_nil)) (nomark _)) (pss_one (ps_ret pe_bl)) pss_nil)
    (pss_cons (ps_if (PW.pt (pw_and (pt_cmpR (op_neD hu2) (pv 5) (pe_tup pa_nil) (nomark _)) (pw_and1 (pt_cmpR op_ne (pe_callB (call_repr hq hu) (by rfl) T.repr (by decide +kernel) (pa_cons (pe_call G_law_asked (hr.mono (by decide)) rfl d_law_asked.g d_law_asked.F.kp d_law_asked.b .nil pass0 (pa_cons (pv 4) (pa_cons pe_int (pa_cons (pe_op op_catA (pv 5) (pe_tup (pa_cons (pe_ix ix_tup (pv 5) pe_int (fun _ _ => rfl)) pa_nil))) (pa_cons (pe_ix ix_tup (pe_ix ix_tup (pv 5) pe_int (fun _ _ => rfl)) pe_int (fun _ _ => rfl)) pa_nil))))) pa_nil)) (pe_callB (call_repr hq hu) (by rfl) T.repr (by decide +kernel) (pa_cons (pe_tup (pa_cons pe_str (pa_cons (pe_callB call_len_seq (by rfl) T.len PySem.boot_len (pa_cons (pv 5) pa_nil)) pa_nil))) pa_nil)) (nomark _))))) (pss_one (ps_ret pe_bl)) pss_nil)
    (pss_cons (ps_set (i := 20) sc_law.nd rfl (Or.inl rfl) (pe_ifExp (pt_cmpR (op_neD hu2) (pv 5) (pe_tup pa_nil) (nomark _)) (pe_call G_law_asked (hr.mono (by decide)) rfl d_law_asked.g d_law_asked.F.kp d_law_asked.b .nil pass0 (pa_cons (pv 4) (pa_cons pe_int (pa_cons (pv 6) (pa_cons (pe_ix ix_tup (pe_ix ix_tup (pv 5) pe_int (fun _ _ => rfl)) pe_int (fun _ _ => rfl)) pa_nil))))) (pe_tup pa_nil)))
    (pss_cons (ps_expr (pe_bm PySem.F.plainAttrs_list PySem.F.slot_list_append PySem.F.type_list_append mt_append (pv 6) (pa_cons pe_non pa_nil)))
    (pss_one (ps_ret (pe_cmpR op_eq (pe_callB (call_repr hq hu) (by rfl) T.repr (by decide +kernel) (pa_cons (pv 20) pa_nil)) (pe_callB (call_repr hq hu) (by rfl) T.repr (by decide +kernel) (pa_cons (pe_slice sl_tupA (pv 5) (po_some pe_int) po_none) pa_nil)) (nomark _)))))))))))))))))))))))), ?_⟩
    refine ⟨_, rfl, sa, sn, 43, rfl, hsa, hsn, by decide, by decide, fun H1 d l D1 S1 hd hl => ?_⟩
    refine ⟨_, rfl, d, l, 4, rfl, by decide, by decide, D1, fun H2 t a A ts D2 S2 t0 ht N2 G2 h0 h5 hm R2 => ?_⟩
    refine ⟨t, _, rfl, SqT.of ht, rfl, _, _, rfl, _, _, rfl, rfl, ?_⟩
    have na : ¬ dl d l a := D1.free N2.top
    have nt : ∀ u ∈ ts, ¬ dl d l u.1 := fun u hu' => D1.free (N2.row u hu')
    have hz : ts.length ≤ 10 := by omega
    have RR : Rs A (rsOf ts) := R2.rs
    have eS : ∀ z : Str, (!decide (V.str z = V.str z)) = false := fun z => by rw [decide_eq_true rfl] <;> rfl
    refine norm (σ' := [some (.ref sa), some (.ref d), some (.int (A : Int)), some (.ref a), none, none, none, none, none, none, none, none, none, none, none, none, none, none, none, none, none]) rfl ?_
    -- the machine and the heap
    refine ⟨_, rfl, _, rfl, make_rows (CE := CE) h0 (by omega) G2 RR (by omega) fun H4 m us S4 hm4 M4 e4 => ?_⟩
    have g4 : Game CM H4 d l a m A ts us := ⟨D2.same S4, G2.same S4, na, nt, R2, h0, by omega, by omega, M4, e4⟩
    refine ⟨_, rfl, _, rfl, _, rfl, d, l, 8, rfl, by decide, by decide, g4.D, fun H5a n D5a S5a n0 n1 => ?_⟩
    have g5 := g4.go D5a S5a
    refine ⟨d, l, (A : Int), n, rfl, by omega, by omega, n0, by omega, g5.D, fun H5 q ps D5 S5 hp5 hq0 hp0 hpl hpz => ⟨by show 2 ≤ sizeLine; decide, fun tp htp => ?_⟩⟩
    have x5a : Bare CM H5 d l a m q A ts us ps := ⟨g5.go D5 S5, hp5, g5.D.free hq0, fun p hp => g5.D.free (hp0 p hp)⟩
    have x5 := x5a.new (o := HO.tup [V.ref m, V.ref q]) htp
    have hpl' : ps.length < 8 := by omega
    have hrs : ∀ r ∈ ps.map (·.2), 0 ≤ r.1 ∧ 0 ≤ r.2 ∧ r.2 < (A : Int) := fun r hr => by
      obtain ⟨p, hp, rfl⟩ := List.mem_map.mp hr
      obtain ⟨z1, z2⟩ := hpz p hp
      exact ⟨z1.1, z2⟩
    have hti : ∀ r ∈ ps.map (·.2), r.1 < 10000 := fun r hr => by
      obtain ⟨p, hp, rfl⟩ := List.mem_map.mp hr
      obtain ⟨z1, z2⟩ := hpz p hp
      exact z1.2
    have hsh : ∀ r ∈ ps.map (·.2), r.1.natAbs < 2 ^ 30 ∧ r.2.natAbs < 2 ^ 30 := fun r hr => by
      obtain ⟨p, hp, rfl⟩ := List.mem_map.mp hr
      obtain ⟨z1, z2⟩ := hpz p hp
      omega
    have asc : Asc (ps.map (·.2)) := hp5.srt
    have hlr : (ps.map (·.2)).length = ps.length := List.length_map ..
    have nd : ((ps.map (·.2)).map (·.1)).Nodup := List.pairwise_map.mpr (asc.imp fun {x y} h => by omega)
    refine ⟨tp, _, rfl, SqT.of upd_same, rfl, _, _, rfl, _, _, rfl, rfl, ?_⟩
    refine norm (σ' := [some (.ref sa), some (.ref d), some (.int (A : Int)), some (.ref a), some (.ref m), some (.ref q), none, none, none, none, none, none, none, none, none, none, none, none, none, none, none]) rfl ?_
    refine ⟨_, rfl, _, rfl, d, l, q, ps, rfl, .inr (SqT.of x5.hp.top), by omega, x5.g.D, fun p hp => ⟨x5.np p hp, x5.hp.row p hp⟩, fun H6 g ms D6 S6 g0 hg hpm => ?_⟩
    have x6 := x5.go D6 S6
    have ng : ¬ dl d l g := x5.g.D.free g0
    have ag : a ≠ g := fun e => by
      have := x5.g.G.top
      rw [e, g0] at this
      cases this
    have tg : ∀ u ∈ ts, u.1 ≠ g := fun u hu' e => by
      have := x5.g.G.row u hu'
      rw [e, g0] at this
      cases this
    have rg : ∀ p ∈ ms, p ∈ ps := fun p hp => hpm.mem_iff.mp hp
    -- as it is passed
    refine joinName (by with_reducible rfl) (fun v H' => ∃ (b : Addr) (dy : PyData), v = .ref b ∧ Lot CM H' d l a m q g b A ts us ps ms dy) (fun Q' kQ => ?_) (fun v H7 hR => ?_)
    · refine ⟨_, rfl, d, l, 2, rfl, by decide, by decide, D6, fun H' r D' S' r0 r1 => ⟨rfl, _, rfl, ite2 (fun _ => ?_) (fun _ => ?_)⟩⟩
      · have hg' := S'.kp.get ng hg
        exact ⟨_, rfl, kQ _ _ ⟨g, _, rfl, x6.go D' S', hg', ng, ng, rg, ag, tg, .inl ⟨hg', rfl⟩⟩⟩
      · have hg' := S'.kp.get ng hg
        exact ⟨_, rfl, .inl ⟨g, _, rfl, SqL.of hg', fun b hb => kQ _ _ ⟨b, _, rfl, (x6.go D' S').new hb, nk hg' hb, ng, D'.free hb, rg, ag, tg, .inr ⟨upd_same, rfl⟩⟩⟩⟩
    obtain ⟨b, dy, rfl, x7⟩ := hR
    refine norm (σ' := [some (.ref sa), some (.ref d), some (.int (A : Int)), some (.ref a), some (.ref m), some (.ref q), some (.ref g), some (.ref b), none, none, none, none, none, none, none, none, none, none, none, none, none]) rfl ?_
    obtain ⟨hdS, hdI⟩ := x7.items
    have hpm2 : (ms.map (·.2)).Perm (ps.map (·.2)) := hpm.map _
    have hpD : ((itemsD dy).map pairD).Perm (ps.map (·.2)) := by
      rw [hdI, pairD_pairs]
      exact hpm2
    have hres : heapRes (A : Int) dy = none := heapRes_ok hdS hdI (fun r hr => hrs r (hpm2.mem_iff.mp hr)) ((hpm2.map (·.1)).nodup_iff.mpr nd)
    have hzl : (itemsD dy).length ≤ 1000 := by
      have := hpm2.length_eq
      rw [hdI, List.length_map, this, List.length_map]
      omega
    have hrA : heapRes (A : Int) dy = none → Asc (ps.map (·.2)) ∧ (ps.map (·.2)).Perm ((itemsD dy).map pairD) := fun _ => ⟨asc, hpD.symm⟩
    -- the latest time, and what was passed
    refine joinPar (by with_reducible rfl) (fun v H' => ∃ la : Int, v = .int la ∧ 0 < la ∧ la < 20000 ∧ (∀ r ∈ ps.map (·.2), r.1 < la) ∧ Lot CM H' d l a m q g b A ts us ps ms dy) (fun Q' kQ => ?_) (fun v H8 hR => ?_)
    · refine ⟨_, rfl, Nat.zero_le _, fun p8 hp8 => ?_⟩
      have x8 := x7.new (o := HO.tup []) hp8
      have De : Dp K H7 (.ref q) (heapP (ps.map (·.2))) := x7.x.hp.dp
      have Df : Dp K (upd H7 p8 (HO.tup [])) (.ref p8) (heapP []) := .tup (SqT.of upd_same) .nil
      refine ⟨_, _, dp_same (Same.new hp8) De, Df, shaped_heap _, shaped_heap _, _, rfl, ?_⟩
      rcases List.eq_nil_or_concat ps with hps | ⟨pr, pl, hps⟩
      · refine iteE (by rw [hps] <;> rfl) (kQ _ _ ⟨2, rfl, by decide, by decide, fun r hr => ?_, x8⟩)
        rw [hps] at hr
        cases hr
      · rw [List.concat_eq_append] at hps
        have e1 : ps.map (·.2) = pr.map (·.2) ++ [pl.2] := by rw [hps, List.map_append] <;> rfl
        have hne : PyData.eqv (heapP (ps.map (·.2))) (heapP []) = false := by
          rw [e1]
          cases pr.map (·.2) <;> rfl
        have ml : pl ∈ ps := by rw [hps]; exact List.mem_append_right _ List.mem_cons_self
        have mlr : pl.2 ∈ ps.map (·.2) := List.mem_map.mpr ⟨pl, ml, rfl⟩
        refine iteN hne ⟨_, rfl, _, rfl, q, _, -1, V.ref pl.1, rfl, rfl, SqT.of x8.x.hp.top, ?_, pl.1, _, 0, V.int pl.2.1, rfl, rfl, SqT.of (x8.x.hp.row pl ml), rfl, _, _, rfl, rfl, kQ _ _ ⟨_, rfl, ?_, ?_, fun r hr => ?_, x8⟩⟩
        · rw [hps, List.map_append]
          exact L2.atI_last _ _
        · have := (hrs _ mlr).1
          omega
        · have := hti _ mlr
          omega
        · rw [e1] at hr
          have a2 := asc
          rw [e1] at a2
          rcases List.mem_append.mp hr with h | h
          · have := (List.pairwise_append.mp a2).2.2 r h pl.2 (List.mem_singleton.mpr rfl)
            omega
          · rw [List.mem_singleton.mp h]
            omega
    obtain ⟨la, rfl, la0, la1, hla, x8⟩ := hR
    refine ⟨_, rfl, .inl ⟨g, _, rfl, SqL.of x8.hg, fun kk hkk => ⟨_, _, rfl, ?_⟩⟩⟩
    have x9 := x8.new (o := HO.tup (ms.map fR)) hkk
    have nkk : ¬ dl d l kk := x8.x.g.D.free hkk
    refine norm (σ' := [some (.ref sa), some (.ref d), some (.int (A : Int)), some (.ref a), some (.ref m), some (.ref q), some (.ref g), some (.ref b), some (.int la), some (.ref kk), none, none, none, none, none, none, none, none, none, none, none]) rfl ?_
    -- each form, two times
    refine ⟨_, rfl, by show 3 ≤ sizeLine; decide, fun z hz3 => ?_⟩
    have x10 := x9.new (o := HO.lst [V.int 0, V.int 1, V.int 2]) hz3
    refine ⟨d, l, z, [0, 1, 2], rfl, SqL.of upd_same, by decide, x10.x.g.D, fun H11 fl fs D11 S11 f0 hf hperm => ?_⟩
    have x11 : Big CM H11 d l a m q g b kk fl A ts us ps ms dy fs := ⟨x10.go D11 S11, S11.kp.get nkk (nk upd_same hz3), nkk, hf, x10.x.g.D.free f0⟩
    have hfs : ∀ z ∈ fs, 0 ≤ z ∧ z ≤ 2 := fun z hz' => by
      have := hperm.mem_iff.mp hz'
      rcases List.mem_cons.mp this with h | h
      · omega
      rcases List.mem_cons.mp h with h | h
      · omega
      have := List.mem_singleton.mp h
      omega
    have eF : (fs.map V.int).length = fs.length := List.length_map ..
    refine ⟨fl, rfl, ⟨_, SqL.of hf⟩, for_list (K := K) (a := fl) (xs := fs.map V.int) (fun i σ H' => (∃ v10 v11 v12 v13 v14 : Option V, σ = [some (.ref sa), some (.ref d), some (.int (A : Int)), some (.ref a), some (.ref m), some (.ref q), some (.ref g), some (.ref b), some (.int la), some (.ref kk), v10, v11, v12, v13, v14, none, none, none, none, none, none]) ∧ Big CM H' d l a m q g b kk fl A ts us ps ms dy fs) ⟨⟨none, none, none, none, none, rfl⟩, x11⟩ (fun i σ H' _ x => SqL.of x.2.hf) ?_ ?_⟩
    · rintro i x σ H12 hi ⟨⟨v10, v11, v12, v13, v14, rfl⟩, x12⟩
      obtain ⟨fv, hfi, rfl⟩ : ∃ c, fs[i]? = some c ∧ V.int c = x := by
        rw [List.getElem?_map] at hi
        cases e : fs[i]? with
        | none => rw [e] at hi; cases hi
        | some c => rw [e] at hi; exact ⟨c, rfl, Option.some.inj hi⟩
      obtain ⟨fv0, fv2⟩ := hfs fv (mem_of_get hfi)
      refine ⟨2, rfl, by decide, by decide, for_range (lo := 0) (n := 2) (fun i σ H' => (∃ v11 v12 v13 v14 : Option V, σ = [some (.ref sa), some (.ref d), some (.int (A : Int)), some (.ref a), some (.ref m), some (.ref q), some (.ref g), some (.ref b), some (.int la), some (.ref kk), some (.int fv), v11, v12, v13, v14, none, none, none, none, none, none]) ∧ Big CM H' d l a m q g b kk fl A ts us ps ms dy fs) ⟨⟨v11, v12, v13, v14, rfl⟩, x12⟩ ?_ ?_⟩
      · rintro i2 σ H13 hi2 ⟨⟨v11, v12, v13, v14, rfl⟩, x13⟩
        refine joinName (by with_reducible rfl) (fun v H' => ∃ tm : Int, v = .int tm ∧ 0 ≤ tm ∧ tm < 20000 ∧ Big CM H' d l a m q g b kk fl A ts us ps ms dy fs) (fun Q' kQ => ?_) (fun v H14 hR => ?_)
        · refine ⟨_, rfl, Nat.zero_le _, fun p hp => ?_⟩
          have y := x13.new (o := HO.tup []) hp
          have De : Dp K H13 (.ref q) (heapP (ps.map (·.2))) := x13.L.x.hp.dp
          have Df : Dp K (upd H13 p (HO.tup [])) (.ref p) (heapP []) := .tup (SqT.of upd_same) .nil
          refine ⟨_, _, dp_same (Same.new hp) De, Df, shaped_heap _, shaped_heap _, _, rfl, ?_⟩
          have drawn : ∀ H' r, DealAt H' d l → SB d l (upd H13 p (HO.tup [])) H' → 0 ≤ r → r < la → Q' (.int r) H' := fun H' r D' S' r0 r1 => kQ _ _ ⟨r, rfl, r0, by omega, y.go D' S'⟩
          by_cases hps : ps = []
          · rw [show PyData.eqv (heapP (ps.map (·.2))) (heapP []) = true by rw [hps] <;> rfl]
            exact iteT (iteT ⟨_, rfl, _, rfl, d, l, la, rfl, la0, by omega, y.L.x.g.D, drawn⟩)
          · have hne : PyData.eqv (heapP (ps.map (·.2))) (heapP []) = false := by
              obtain ⟨p0, pr, e0⟩ := List.exists_cons_of_ne_nil hps
              rw [e0] <;> rfl
            rw [hne]
            refine iteF ⟨_, rfl, rfl, _, rfl, ite2 (fun _ => ?_) (fun _ => ?_)⟩
            · exact ⟨_, rfl, _, rfl, d, l, la, rfl, la0, by omega, y.L.x.g.D, drawn⟩
            · refine ⟨_, rfl, _, rfl, d, l, q, _, rfl, y.L.x.hp.top, y.L.x.nq, by rw [List.length_map]; exact List.length_pos_iff.mpr hps, by rw [List.length_map]; omega, y.L.x.g.D, fun H' i v D' S' hi => ?_⟩
              rw [List.getElem?_map] at hi
              obtain ⟨u, hu', rfl⟩ : ∃ u, ps[i]? = some u ∧ V.ref u.1 = v := by
                cases e : ps[i]? with
                | none => rw [e] at hi; cases hi
                | some u => rw [e] at hi; exact ⟨u, rfl, Option.some.inj hi⟩
              have mu := mem_of_get hu'
              have mr : u.2 ∈ ps.map (·.2) := List.mem_map.mpr ⟨u, mu, rfl⟩
              have y2 := y.go D' S'
              exact ⟨u.1, _, 0, V.int u.2.1, rfl, rfl, SqT.of (y2.L.x.hp.row u mu), rfl, kQ _ _ ⟨_, rfl, (hrs _ mr).1, by have := hti _ mr; omega, y2⟩⟩
        obtain ⟨tm, rfl, tm0, tm1, x14⟩ := hR
        refine norm (σ' := [some (.ref sa), some (.ref d), some (.int (A : Int)), some (.ref a), some (.ref m), some (.ref q), some (.ref g), some (.ref b), some (.int la), some (.ref kk), some (.int fv), some (.int (0 + (i2 : Int))), some (.int tm), v13, v14, none, none, none, none, none, none]) rfl ?_
        refine ⟨_, rfl, _, rfl, d, l, (A : Int), rfl, by omega, by omega, x14.L.x.g.D, fun H15 c D15 S15 c0 c1 => ?_⟩
        have x15 := x14.go D15 S15
        refine joinName (by with_reducible rfl) (fun v H' => ∃ dv : PyData, Dv H' v dv ∧ askD A fv (ps.map (·.2)) dy dv = dueD fv (ps.map (·.2)) tm c ∧ Big CM H' d l a m q g b kk fl A ts us ps ms dy fs) (fun Q' kQ => ?_) (fun v H16 hR => ?_)
        · refine ⟨_, rfl, rfl, _, rfl, ?_⟩
          by_cases f0 : fv = 0
          · subst f0
            rw [decide_eq_true rfl]
            exact iteT ⟨_, rfl, _, rfl, by show 2 ≤ sizeLine; decide, fun p hp => kQ _ _ ⟨pairP (tm, c), .tup upd_same (.cons (.int _) (.cons (.int _) .nil)), ask_due0 hres tm0 ⟨c0, c1⟩, x15.new hp⟩⟩
          · rw [decide_eq_false (show ¬ V.int fv = V.int 0 from fun e => f0 (by injection e))]
            refine iteF ⟨_, rfl, kQ _ _ ⟨.int tm, .int _, ?_, x15⟩⟩
            by_cases f1 : fv = 1
            · subst f1
              exact ask_due1 hres tm0
            · have f2 : fv = 2 := by omega
              subst f2
              exact ask_due2 hres tm0
        obtain ⟨dv, Dv16, ed, x16⟩ := hR
        refine norm (σ' := [some (.ref sa), some (.ref d), some (.int (A : Int)), some (.ref a), some (.ref m), some (.ref q), some (.ref g), some (.ref b), some (.int la), some (.ref kk), some (.int fv), some (.int (0 + (i2 : Int))), some (.int tm), some (.int c), some v, none, none, none, none, none, none]) rfl ?_
        have td : Told (dueD fv (ps.map (·.2)) tm c) := told_due hsh (by rw [List.length_map]; omega) (by omega) (by omega)
        refine ⟨_, rfl, _, rfl, _, rfl, _, rfl, m, fv, .ref b, v, dy, dv, (A : Int), us, ps.map (·.2), rfl, x16.L.x.g.M, x16.L.dv, Dv16, hzl, hrA, fun H17 v17 S17 D17 => ?_⟩
        rw [ed] at D17
        have x17 := x16.same S17
        refine ⟨v17, _, rfl, td.dp D17, .inr (td.ref D17), td.sh, ?_⟩
        refine ⟨_, rfl, _, rfl, _, rfl, _, rfl, fv, q, tm, c, ps, rfl, fv0, fv2, x17.L.x.hp, by omega, fun H18 v18 S18 D18 => ?_⟩
        refine ⟨v18, _, rfl, td.dp D18, .inr (td.ref D18), td.sh, rfl, _, rfl, ?_⟩
        exact iteS rfl ⟨⟨_, _, _, _, rfl⟩, x17.same S18⟩
      · rintro σ H13 ⟨⟨v11, v12, v13, v14, rfl⟩, x13⟩
        exact ⟨⟨_, v11, v12, v13, v14, rfl⟩, x13⟩
    rintro σ H17 ⟨⟨v10, v11, v12, v13, v14, rfl⟩, x17⟩
    have mrow : ∀ {H' : Hp}, Lot CM H' d l a m q g b A ts us ps ms dy → ∀ p ∈ ms, H' p.1 = some (.tup [.int p.2.1, .int p.2.2]) := fun x p hp => x.x.hp.row p (rg p hp)
    refine norm (σ' := [some (.ref sa), some (.ref d), some (.int (A : Int)), some (.ref a), some (.ref m), some (.ref q), some (.ref g), some (.ref b), some (.int la), some (.ref kk), v10, v11, v12, v13, v14, none, none, none, none, none, none]) rfl ?_
    -- what was handed in stands
    refine ⟨_, rfl, .inl ⟨g, _, rfl, SqL.of x17.L.hg, fun p18 hp18 => ?_⟩⟩
    have x18 := x17.new (o := HO.tup (ms.map fR)) hp18
    have Da18 : Dp K (upd H17 p18 (HO.tup (ms.map fR))) (.ref p18) (heapP (ms.map (·.2))) := .tup (SqT.of upd_same) (dp_heap (mrow x18.L))
    have Dk18 : Dp K (upd H17 p18 (HO.tup (ms.map fR))) (.ref kk) (heapP (ms.map (·.2))) := .tup (SqT.of x18.hk) (dp_heap (mrow x18.L))
    refine ⟨_, rfl, _, _, Da18, Dk18, shaped_heap _, shaped_heap _, _, rfl, iteE (eqv_heap _) ?_⟩
    refine ⟨_, rfl, ?_⟩
    have hbb : upd H17 p18 (HO.tup (ms.map fR)) b = some (.lst (ms.map fR)) ∨ upd H17 p18 (HO.tup (ms.map fR)) b = some (.tup (ms.map fR)) := x18.L.t.elim (fun z => .inl z.1) fun z => .inr z.1
    refine kTup_any hbb fun H19 p19 S19 hp19 => ?_
    have x19 := x18.same S19
    have Da19 : Dp K H19 (.ref p19) (heapP (ms.map (·.2))) := .tup (SqT.of hp19) (dp_heap (mrow x19.L))
    have Dk19 : Dp K H19 (.ref kk) (heapP (ms.map (·.2))) := .tup (SqT.of x19.hk) (dp_heap (mrow x19.L))
    refine ⟨_, rfl, _, _, Da19, Dk19, shaped_heap _, shaped_heap _, _, rfl, iteE (eqv_heap _) ?_⟩
    -- what is no slip, and a place
    refine ⟨_, rfl, _, rfl, _, rfl, _, rfl, d, l, la, rfl, la0, by omega, x19.L.x.g.D, fun H27 bt D27 S27 bt0 bt1 => ?_⟩
    have x27 := x19.go D27 S27
    refine ⟨d, l, (A : Int), bt, rfl, x27.L.x.g.D, fun H28 v28 e28 D28 S28 K28 he28 => ?_⟩
    have x28 := x27.go D28 S28
    refine ⟨_, rfl, _, rfl, q, _, rfl, .inr (SqT.of x28.L.x.hp.top), _, _, rfl, rfl, d, l, _, rfl, by rw [List.length_map]; omega, by rw [List.length_map]; omega, D28, fun H29 pl_ D29 S29 p0 p1 => ⟨_, _, rfl, ?_⟩⟩
    rw [List.length_map] at p1
    obtain ⟨j, rfl⟩ : ∃ j : Nat, pl_ = (j : Int) := ⟨pl_.toNat, by omega⟩
    have hj : j ≤ ps.length := by omega
    have x29 := x28.go D29 S29
    have K29 := K28.go S29
    refine norm (σ' := [some (.ref sa), some (.ref d), some (.int (A : Int)), some (.ref a), some (.ref m), some (.ref q), some (.ref g), some (.ref b), some (.int la), some (.ref kk), v10, v11, v12, v13, v14, some v28, some (.int (j : Int)), none, none, none, none]) rfl ?_
    have c1 : cutV (ps.map fun p => V.ref p.1) none (some (j : Int)) = (ps.take j).map fun p => V.ref p.1 := by
      rw [ctTo, List.map_take]
    have c2 : cutV (ps.map fun p => V.ref p.1) (some (j : Int)) none = (ps.drop j).map fun p => V.ref p.1 := by
      rw [ctFrom, List.map_drop]
    have lc1 : ((ps.take j).map fun p => V.ref p.1).length ≤ 200 := by
      rw [List.length_map, List.length_take]
      omega
    have lc2 : ((ps.drop j).map fun p => V.ref p.1).length ≤ 200 := by
      rw [List.length_map, List.length_drop]
      omega
    refine ⟨_, rfl, _, rfl, (j : Int), rfl, rSlA_ok (SqT.of x29.L.x.hp.top) fun H30 p30 S30 hp30 => ⟨p30, _, rfl, .inr hp30, fun b30 hb30 => ?_⟩⟩
    rw [c1]
    have x30 := (x29.same S30).new (o := HO.lst ((ps.take j).map fun p => V.ref p.1)) hb30
    refine ⟨_, rfl, by show 1 ≤ sizeLine; decide, fun p31 hp31 => ?_⟩
    have x31 := x30.new (o := HO.lst [v28]) hp31
    refine ⟨b30, p31, _, _, rfl, rfl, nk upd_same hp31, upd_same, Nat.le_trans (show _ ≤ 1000 by simp only [List.length_singleton]; omega) (by decide), fun p32 hp32 => ?_⟩
    have x32 := x31.new (o := HO.lst (((ps.take j).map fun p => V.ref p.1) ++ [v28])) hp32
    refine ⟨_, rfl, _, rfl, (j : Int), rfl, ?_⟩
    refine noPart ?_
    refine rSlA_ok (SqT.of x32.L.x.hp.top) fun H33 p33 S33 hp33 => ?_
    refine ⟨p33, _, rfl, .inr hp33, fun b33 hb33 => ?_⟩
    rw [c2]
    have x33 := (x32.same S33).new (o := HO.lst ((ps.drop j).map fun p => V.ref p.1)) hb33
    refine ⟨p32, b33, _, _, rfl, rfl, nk (S33 _ _ upd_same) hb33, upd_same, Nat.le_trans (show _ ≤ 2000 by rw [List.length_append]; simp only [List.length_singleton]; omega) (by decide), fun p34 hp34 => ?_⟩
    have x34 := x33.new (o := HO.lst (((ps.take j).map fun p => V.ref p.1) ++ [v28] ++ (ps.drop j).map fun p => V.ref p.1)) hp34
    have np34 : ¬ dl d l p34 := x33.L.x.g.D.free hp34
    have S2934 : Same H29 _ := S30.trans ((Same.new (o := HO.lst ((ps.take j).map fun p => V.ref p.1)) hb30).trans ((Same.new (o := HO.lst [v28]) hp31).trans ((Same.new (o := HO.lst (((ps.take j).map fun p => V.ref p.1) ++ [v28])) hp32).trans (S33.trans ((Same.new (o := HO.lst ((ps.drop j).map fun p => V.ref p.1)) hb33).trans (Same.new (o := HO.lst (((ps.take j).map fun p => V.ref p.1) ++ [v28] ++ (ps.drop j).map fun p => V.ref p.1)) hp34))))))
    have K34 := K29.go (KP.same S2934).sb
    obtain ⟨dbad, edb⟩ : ∃ e : PyData, e = .list (((ps.map (·.2)).take j).map pairP ++ e28 :: ((ps.map (·.2)).drop j).map pairP) := ⟨_, rfl⟩
    have B34 : KDv d l (upd (upd H33 b33 (HO.lst ((ps.drop j).map fun p => V.ref p.1))) p34 (HO.lst (((ps.take j).map fun p => V.ref p.1) ++ [v28] ++ (ps.drop j).map fun p => V.ref p.1))) (.ref p34) dbad := fun H' S' => by
      have hrow : ∀ p ∈ ps, H' p.1 = some (.tup [.int p.2.1, .int p.2.2]) := fun p hp => S'.kp.get (x34.L.x.np p hp) (x34.L.x.hp.row p hp)
      rw [edb]
      refine .lst (S'.kp.get np34 upd_same) ?_
      rw [List.append_assoc, ← List.map_take, ← List.map_drop]
      exact dvAll_append (dvAll_heap fun p hp => hrow p (List.mem_of_mem_take hp)) (.cons (K34 H' S') (dvAll_heap fun p hp => hrow p (List.mem_of_mem_drop hp)))
    have rb : heapRes (A : Int) dbad = some j := by
      have e := heapRes_bad (A := (A : Int)) (dy := dbad) (e := e28) (post := ((ps.map (·.2)).drop j).map pairP) (rs := (ps.map (·.2)).take j) (by rw [edb] <;> rfl) (by rw [edb] <;> rfl) (fun r hr => hrs r (List.mem_of_mem_take hr)) (by rw [List.map_take]; exact nd.sublist (List.take_sublist ..)) he28
      rw [e, List.length_take, List.length_map, Nat.min_eq_left hj]
    have zb : (itemsD dbad).length ≤ 1000 := by
      rw [edb]
      show (((ps.map (·.2)).take j).map pairP ++ e28 :: ((ps.map (·.2)).drop j).map pairP).length ≤ 1000
      rw [List.length_append, List.length_cons, List.length_map, List.length_map, List.length_take, List.length_drop, List.length_map]
      omega
    -- a strange time [some (.ref sa), some (.ref d), some (.int (A : Int)), some (.ref a), some (.ref m), some (.ref q), some (.ref g), some (.ref b), some (.int la), some (.ref kk), v10, v11, v12, v13, v14, some v28, some (.int (j : Int)), some (.ref p34), none, none, none]
    refine ⟨_, rfl, _, rfl, by show 1 ≤ sizeLine; decide, fun p35 hp35 => ⟨_, rfl, _, _, rfl, rfl, by show 7 ≤ sizeLine; decide, fun p36 hp36 => ?_⟩⟩
    have x36 := (x34.new (o := HO.tup [V.int 0]) hp35).new (o := HO.lst [V.int (-1), V.non, V.bl true, V.bl false, V.str "0", V.ref p35, V.int (la + 3)]) hp36
    refine ⟨d, l, p36, _, rfl, upd_same, (x34.new (o := HO.tup [V.int 0]) hp35).L.x.g.D.free hp36, by show 0 < 7; decide, by show 7 ≤ 1000; decide, x36.L.x.g.D, fun H37 i37 v37 D37 S37 hi37 => ?_⟩
    have n35 : ¬ dl d l p35 := x34.L.x.g.D.free hp35
    have g35 := S37.kp.get n35 (nk upd_same hp36)
    have hv37 : ∃ e, KDv d l H37 v37 e ∧ plRes (ps.map (·.2)) e = none := pick7 (P := fun v => ∃ e, KDv d l H37 v e ∧ plRes (ps.map (·.2)) e = none) hi37 ⟨_, fun _ _ => .int (-1), plRes_no rfl⟩ ⟨_, fun _ _ => .non, plRes_no rfl⟩ ⟨_, fun _ _ => .bl true, plRes_no rfl⟩ ⟨_, fun _ _ => .bl false, plRes_no rfl⟩ ⟨_, fun _ _ => .str _, plRes_no rfl⟩
      ⟨_, fun H' S' => .tup (S'.kp.get n35 g35) (.cons (.int 0) .nil), plRes_no rfl⟩ ⟨_, fun _ _ => .int (la + 3), by
        rw [plRes_int (by omega)]
        exact atT_no fun hm => by
          obtain ⟨r, hr, e⟩ := List.mem_map.mp hm
          have := hla r hr
          omega⟩
    obtain ⟨e37, K37, he37⟩ := hv37
    have x37 := x36.go D37 S37
    have S3437 : SB d l _ H37 := (SB.new (o := HO.tup [V.int 0]) hp35).trans ((SB.new (o := HO.lst [V.int (-1), V.non, V.bl true, V.bl false, V.str "0", V.ref p35, V.int (la + 3)]) hp36).trans S37)
    have B37 := B34.go S3437
    have Kb37 := K34.go S3437
    -- [some (.ref sa), some (.ref d), some (.int (A : Int)), some (.ref a), some (.ref m), some (.ref q), some (.ref g), some (.ref b), some (.int la), some (.ref kk), v10, v11, v12, v13, v14, some v28, some (.int (j : Int)), some (.ref p34), some v37, none, none]
    -- the heap with what is no slip
    refine ⟨3, rfl, by decide, by decide, for_range (lo := 0) (n := 3) (fun i σ H' => (∃ v10 : Option V, σ = [some (.ref sa), some (.ref d), some (.int (A : Int)), some (.ref a), some (.ref m), some (.ref q), some (.ref g), some (.ref b), some (.int la), some (.ref kk), v10, v11, v12, v13, v14, some v28, some (.int (j : Int)), some (.ref p34), some v37, none, none]) ∧ Same H37 H') ⟨⟨v10, rfl⟩, Same.refl _⟩ ?_ ?_⟩
    · rintro i σ H38 hi ⟨⟨v10, rfl⟩, S38⟩
      have x38 := x37.same S38
      have B38 := B37.go (KP.same S38).sb
      have ts : Told (slipP (j : Int)) := .slip _ (by omega)
      refine ⟨_, rfl, _, rfl, _, rfl, _, rfl, rfl, _, rfl, ite2 (fun _ => ?_) (fun _ => ?_)⟩
      · refine ⟨_, rfl, m, (0 + (i : Int)), .ref p34, v28, dbad, e28, (A : Int), us, ps.map (·.2), rfl, x38.L.x.g.M, B38.dv, (Kb37.go (KP.same S38).sb).dv, zb, (fun e => by rw [rb] at e; cases e), fun H39 v39 S39 D39 => ?_⟩
        rw [ask_bad rb] at D39
        refine ⟨v39, _, rfl, ts.dp D39, .inr (ts.ref D39), ts.sh, _, rfl, by show 2 ≤ sizeLine; decide, fun p hp => ⟨.ref p, slipP (j : Int), rfl, .tup (SqT.of upd_same) (.cons (.str _) (.cons (.int _) .nil)), .inr ⟨_, rfl⟩, ts.sh, rfl, _, rfl, ?_⟩⟩
        exact iteS rfl ⟨⟨_, rfl⟩, (S38.trans S39).trans (Same.new hp)⟩
      · refine ⟨_, rfl, m, (0 + (i : Int)), .ref p34, v37, dbad, e37, (A : Int), us, ps.map (·.2), rfl, x38.L.x.g.M, B38.dv, (K37.go (KP.same S38).sb).dv, zb, (fun e => by rw [rb] at e; cases e), fun H39 v39 S39 D39 => ?_⟩
        rw [ask_bad rb] at D39
        refine ⟨v39, _, rfl, ts.dp D39, .inr (ts.ref D39), ts.sh, _, rfl, by show 2 ≤ sizeLine; decide, fun p hp => ⟨.ref p, slipP (j : Int), rfl, .tup (SqT.of upd_same) (.cons (.str _) (.cons (.int _) .nil)), .inr ⟨_, rfl⟩, ts.sh, rfl, _, rfl, ?_⟩⟩
        exact iteS rfl ⟨⟨_, rfl⟩, (S38.trans S39).trans (Same.new hp)⟩
    rintro σ H38 ⟨⟨v10, rfl⟩, S38⟩
    have x40 := x37.same S38
    have Kb40 := Kb37.go (KP.same S38).sb
    have Ks40 := K37.go (KP.same S38).sb
    have ts0 : Told (slipP 0) := .slip _ (by decide)
    have tr0 : Told (refuP 0) := .refu
    refine norm (σ' := [some (.ref sa), some (.ref d), some (.int (A : Int)), some (.ref a), some (.ref m), some (.ref q), some (.ref g), some (.ref b), some (.int la), some (.ref kk), v10, v11, v12, v13, v14, some v28, some (.int (j : Int)), some (.ref p34), some v37, none, none]) rfl ?_
    refine ⟨_, rfl, _, rfl, _, rfl, m, 0, .ref b, v28, dy, e28, (A : Int), us, ps.map (·.2), rfl, x40.L.x.g.M, x40.L.dv, Kb40.dv, hzl, hrA, fun H40a v40a S40a D40a => ?_⟩
    rw [ask_no0 hres he28] at D40a
    refine ⟨v40a, _, rfl, ts0.dp D40a, .inr (ts0.ref D40a), ts0.sh, by show 2 ≤ sizeLine; decide, fun p40a hp40a => ⟨.ref p40a, slipP 0, rfl, .tup (SqT.of upd_same) (.cons (.str _) (.cons (.int _) .nil)), .inr ⟨_, rfl⟩, ts0.sh, rfl, _, rfl, ?_⟩⟩
    refine iteS rfl ?_
    have S40b := S40a.trans (Same.new (o := HO.tup [V.str "slip", V.int 0]) hp40a)
    have x41 := x40.same S40b
    have Kb41 := Kb40.go (KP.same S40b).sb
    have Ks41 := Ks40.go (KP.same S40b).sb
    refine ⟨_, rfl, _, rfl, _, rfl, m, 1, .ref b, v37, dy, e37, (A : Int), us, ps.map (·.2), rfl, x41.L.x.g.M, x41.L.dv, Ks41.dv, hzl, hrA, fun H41a v41a S41a D41a => ?_⟩
    rw [ask_no1 hres he37] at D41a
    refine ⟨v41a, _, rfl, tr0.dp D41a, .inr (tr0.ref D41a), tr0.sh, by show 2 ≤ sizeLine; decide, fun p41a hp41a => ⟨.ref p41a, refuP 0, rfl, .tup (SqT.of upd_same) (.cons (.str _) (.cons (.int _) .nil)), .inr ⟨_, rfl⟩, tr0.sh, rfl, _, rfl, ?_⟩⟩
    refine iteS rfl ?_
    have S41b := S41a.trans (Same.new (o := HO.tup [V.str "refused", V.int 0]) hp41a)
    have x42 := x41.same S41b
    have Kb42 := Kb41.go (KP.same S41b).sb
    have Ks42 := Ks41.go (KP.same S41b).sb
    refine ⟨_, rfl, _, rfl, _, rfl, m, 2, .ref b, v37, dy, e37, (A : Int), us, ps.map (·.2), rfl, x42.L.x.g.M, x42.L.dv, Ks42.dv, hzl, hrA, fun H42a v42a S42a D42a => ?_⟩
    rw [ask_no2 hres he37] at D42a
    refine ⟨v42a, _, rfl, tr0.dp D42a, .inr (tr0.ref D42a), tr0.sh, by show 2 ≤ sizeLine; decide, fun p42a hp42a => ⟨.ref p42a, refuP 0, rfl, .tup (SqT.of upd_same) (.cons (.str _) (.cons (.int _) .nil)), .inr ⟨_, rfl⟩, tr0.sh, rfl, _, rfl, ?_⟩⟩
    refine iteS rfl ?_
    have S42b := S42a.trans (Same.new (o := HO.tup [V.str "refused", V.int 0]) hp42a)
    have x43 := x42.same S42b
    have Kb43 := Kb42.go (KP.same S42b).sb
    have Ks43 := Ks42.go (KP.same S42b).sb
    -- times near one another
    obtain ⟨t0, et0⟩ : ∃ t0 : Int, t0 = ((ps.map (·.2)).getD 0 (0, 0)).1 := ⟨_, rfl⟩
    obtain ⟨nr, enr⟩ : ∃ nr : List (Int × Int), nr = (ps.map (·.2)).map fun r => (r.1 - t0 + 1, r.2) := ⟨_, rfl⟩
    have t0le : ∀ r ∈ ps.map (·.2), t0 ≤ r.1 := fun r hr => by
      cases e : ps.map (·.2) with
      | nil =>
        rw [e] at hr
        cases hr
      | cons r0 rr =>
        rw [e] at hr et0
        have a2 := asc
        rw [e] at a2
        have z : t0 = r0.1 := et0
        rcases List.mem_cons.mp hr with h | h
        · rw [h]
          omega
        · have := (List.pairwise_cons.mp a2).1 r h
          omega
    refine ⟨_, rfl, q, rfl, ⟨_, SqT.of x43.L.x.hp.top⟩, fun n44 hn44 => ?_⟩
    refine lcPairs (K := K) (i := 12) (j := 13) (fun r => (r.1 - t0 + 1, r.2)) hn44 (by omega) x43.L.x.hp.top x43.L.x.hp.row (fun _ _ => wipe2 _ _) (fun p hp H S Q kQ => ?_) (fun H44 qs hn hqs eqs S44 => ?_)
    · obtain ⟨p0, pr, e0⟩ := List.exists_cons_of_ne_nil (List.ne_nil_of_mem hp)
      have m0 : p0 ∈ ps := by
        rw [e0]
        exact List.mem_cons_self
      have z : t0 = p0.2.1 := by rw [et0, e0] <;> rfl
      refine ⟨_, rfl, _, rfl, q, _, 0, V.ref p0.1, rfl, rfl, SqT.of (S _ _ x43.L.x.hp.top), atI_int (by decide) (by rw [e0] <;> rfl), p0.1, _, 0, V.int p0.2.1, rfl, rfl, SqT.of (S _ _ (x43.L.x.hp.row p0 m0)), rfl, _, _, rfl, rfl, _, _, rfl, rfl, _, rfl, by show 2 ≤ sizeLine; decide, fun b hb => kQ _ b (Same.new hb) hb ?_⟩
      show upd _ b _ b = some (.tup [.int (p.2.1 - t0 + 1), .int p.2.2])
      rw [z]
      exact upd_same
    rw [← enr] at eqs
    have x44 := x43.same S44
    have n44n : ¬ dl d l n44 := x43.L.x.g.D.free hn44
    have Kn44 : KDv d l H44 (.ref n44) (.list (nr.map pairP)) := fun H' S' => by
      rw [← eqs]
      exact .lst (S'.kp.get n44n hn) (dvAll_heap fun u hu' => S'.kp.get (dl_tup x44.L.x.g.D (hqs u hu')) (hqs u hu'))
    have nrs : ∀ r ∈ nr, 0 ≤ r.1 ∧ 0 ≤ r.2 ∧ r.2 < (A : Int) := fun r hr => by
      rw [enr] at hr
      obtain ⟨u, hu', rfl⟩ := List.mem_map.mp hr
      have h1 := t0le u hu'
      have h2 := (hrs u hu').2
      exact ⟨by show 0 ≤ u.1 - t0 + 1; omega, h2⟩
    have nasc : Asc nr := by
      rw [enr]
      exact List.pairwise_map.mpr (asc.imp fun {x y} h => by show x.1 - t0 + 1 < y.1 - t0 + 1; omega)
    have nnd : (nr.map (·.1)).Nodup := List.pairwise_map.mpr (nasc.imp fun {x y} h => by omega)
    have nres : heapRes (A : Int) (.list (nr.map pairP)) = none := heapRes_ok rfl rfl nrs nnd
    have nzl : (itemsD (.list (nr.map pairP))).length ≤ 1000 := by
      show (nr.map pairP).length ≤ 1000
      rw [List.length_map, enr, List.length_map, List.length_map]
      omega
    have nrA : heapRes (A : Int) (.list (nr.map pairP)) = none → Asc nr ∧ nr.Perm ((itemsD (.list (nr.map pairP))).map pairD) := fun _ => ⟨nasc, by
      show nr.Perm ((nr.map pairP).map pairD)
      rw [pairD_pairs]⟩
    -- [some (.ref sa), some (.ref d), some (.int (A : Int)), some (.ref a), some (.ref m), some (.ref q), some (.ref g), some (.ref b), some (.int la), some (.ref kk), v10, v11, v12, v13, v14, some v28, some (.int (j : Int)), some (.ref p34), some v37, some (.ref n44), none]
    refine ⟨_, rfl, _, rfl, d, l, 2, rfl, by decide, by decide, x44.L.x.g.D, fun H45 r45 D45 S45 r450 r451 => ?_⟩
    have x45 := x44.go D45 S45
    have Kn45 := Kn44.go S45
    have e45 : askD (A : Int) (1 + r45) nr (.list (nr.map pairP)) (.bool true) = refuP 0 := by
      by_cases h : r45 = 0
      · rw [h]
        exact ask_no1 nres (plRes_no rfl)
      · rw [show (1 : Int) + r45 = 2 by omega]
        exact ask_no2 nres (plRes_no rfl)
    refine ⟨_, _, rfl, rfl, _, rfl, m, 1 + r45, .ref n44, .bl true, .list (nr.map pairP), .bool true, (A : Int), us, nr, rfl, x45.L.x.g.M, Kn45.dv, .bl _, nzl, nrA, fun H46 v46 S46 D46 => ?_⟩
    rw [e45] at D46
    refine ⟨v46, _, rfl, tr0.dp D46, .inr (tr0.ref D46), tr0.sh, by show 2 ≤ sizeLine; decide, fun p46 hp46 => ⟨.ref p46, refuP 0, rfl, .tup (SqT.of upd_same) (.cons (.str _) (.cons (.int _) .nil)), .inr ⟨_, rfl⟩, tr0.sh, rfl, _, rfl, ?_⟩⟩
    refine iteS rfl ?_
    have x47 := x45.same (S46.trans (Same.new (o := HO.tup [V.str "refused", V.int 0]) hp46))
    refine toNx ?_
    refine norm (σ' := [some (.ref sa), some (.ref d), some (.int (A : Int)), some (.ref a), some (.ref m), some (.ref q), some (.ref g), some (.ref b), some (.int la), some (.ref kk), v10, v11, v12, v13, v14, some v28, some (.int (j : Int)), some (.ref p34), some v37, some (.ref n44), none]) rfl ?_
    -- the first slip once more
    refine joinIf (by with_reducible rfl) (fun H' => Big CM H' d l a m q g b kk fl A ts us ps ms dy fs) (fun Q' kQ => ?_) (fun H49 x49 => ?_)
    · refine ⟨_, rfl, Nat.zero_le _, fun p49 hp49 => ?_⟩
      have x49 := x47.new (o := HO.tup []) hp49
      have Df49 : Dp K (upd (upd H46 p46 (HO.tup [V.str "refused", V.int 0])) p49 (HO.tup [])) (.ref p49) (heapP []) := .tup (SqT.of upd_same) .nil
      refine ⟨_, _, x49.L.x.hp.dp, Df49, shaped_heap _, shaped_heap _, _, rfl, ?_⟩
      by_cases hps : ps = []
      · exact iteE (by rw [hps] <;> rfl) (kQ _ x49)
      obtain ⟨p0, pr, e0⟩ : ∃ p0 pr, ps = p0 :: pr := List.exists_cons_of_ne_nil hps
      have hm0 : p0 ∈ ps := by
        rw [e0]
        exact List.mem_cons_self
      refine iteN (by rw [e0] <;> rfl) ?_
      have at0 : atI (ps.map fun p => V.ref p.1) 0 = some (V.ref p0.1) := atI_int (by decide) (by rw [e0] <;> rfl)
      refine ⟨_, rfl, _, rfl, _, rfl, q, _, 0, V.ref p0.1, rfl, rfl, SqT.of x49.L.x.hp.top, at0, by show 1 ≤ sizeLine; decide, fun p50 hp50 => ?_⟩
      have x50 := x49.new (o := HO.tup [V.ref p0.1]) hp50
      refine catA x50.L.x.hp.top upd_same ?_ fun H51 p51 S51 h51 => ?_
      · rw [List.length_map]
        exact Nat.le_trans (show ps.length + 1 ≤ 1001 by omega) (by decide)
      have x51 := x50.same S51
      refine ⟨_, rfl, q, _, 0, V.ref p0.1, rfl, rfl, SqT.of x51.L.x.hp.top, at0, p0.1, _, 0, V.int p0.2.1, rfl, rfl, SqT.of (x51.L.x.hp.row p0 hm0), rfl, ?_⟩
      have D51 : Dv H51 (.ref p51) (.tuple ((ps.map (·.2)).map pairP ++ [pairP p0.2])) := .tup h51 (dvAll_append (dvAll_heap x51.L.x.hp.row) (.cons (.tup (x51.L.x.hp.row p0 hm0) (.cons (.int _) (.cons (.int _) .nil))) .nil))
      have z51 : (itemsD (.tuple ((ps.map (·.2)).map pairP ++ [pairP p0.2]))).length ≤ 1000 := by
        show ((ps.map (·.2)).map pairP ++ [pairP p0.2]).length ≤ 1000
        rw [List.length_append, List.length_map, List.length_map]
        show ps.length + 1 ≤ 1000
        omega
      have r51 : heapRes (A : Int) (.tuple ((ps.map (·.2)).map pairP ++ [pairP p0.2])) = some (ps.map (·.2)).length := heapRes_twice (r := p0.2) rfl rfl hrs nd (List.mem_map.mpr ⟨p0, hm0, rfl⟩)
      refine ⟨m, 2, .ref p51, .int p0.2.1, _, .int p0.2.1, (A : Int), us, ps.map (·.2), rfl, x51.L.x.g.M, D51, .int _, z51, (fun e => by rw [r51] at e; cases e), fun H52 v52 S52 D52 => ?_⟩
      have eL : ((ps.map (·.2)).length : Int) = ((ps.map fun p => V.ref p.1).length : Int) := by rw [List.length_map, List.length_map]
      rw [ask_bad r51, eL] at D52
      have tn : Told (slipP ((ps.map fun p => V.ref p.1).length : Int)) := .slip _ (by rw [List.length_map]; omega)
      have x52 := x51.same S52
      refine ⟨v52, _, rfl, tn.dp D52, .inr (tn.ref D52), tn.sh, _, rfl, q, _, rfl, .inr (SqT.of x52.L.x.hp.top), by show 2 ≤ sizeLine; decide, fun p53 hp53 => ⟨.ref p53, slipP ((ps.map fun p => V.ref p.1).length : Int), rfl, .tup (SqT.of upd_same) (.cons (.str _) (.cons (.int _) .nil)), .inr ⟨_, rfl⟩, tn.sh, rfl, _, rfl, ?_⟩⟩
      rw [eS]
      exact kQ _ (x52.new hp53)
    -- what was told stays when what was handed in is changed
    refine joinNx (by with_reducible rfl) (fun v H' => Dv H' v (heapP ((ps.map (·.2)).drop 1)) ∧ Big CM H' d l a m q g b kk fl A ts us ps ms dy fs) (fun Q' kQ => ?_) (fun v H60 hR => ?_)
    · refine ⟨_, rfl, Nat.zero_le _, fun p54 hp54 => ?_⟩
      have x54 := x49.new (o := HO.tup []) hp54
      have Df54 : Dp K (upd H49 p54 (HO.tup [])) (.ref p54) (heapP []) := .tup (SqT.of upd_same) .nil
      refine ⟨_, _, x54.L.x.hp.dp, Df54, shaped_heap _, shaped_heap _, _, rfl, ?_⟩
      by_cases hps : ps = []
      · exact iteE (by rw [hps] <;> rfl) ⟨Nat.zero_le _, fun p55 hp55 => kQ _ _ ⟨by rw [hps]; exact .tup upd_same .nil, x54.new hp55⟩⟩
      obtain ⟨p0, pr, e0⟩ : ∃ p0 pr, ps = p0 :: pr := List.exists_cons_of_ne_nil hps
      have hm0 : p0 ∈ ps := by
        rw [e0]
        exact List.mem_cons_self
      have at0 : atI (ps.map fun p => V.ref p.1) 0 = some (V.ref p0.1) := atI_int (by decide) (by rw [e0] <;> rfl)
      have gI : itemsD (.list ((ms.map (·.2)).map pairP)) = (ms.map (·.2)).map pairP := rfl
      have gres : heapRes (A : Int) (.list ((ms.map (·.2)).map pairP)) = none := heapRes_ok rfl gI (fun r hr => hrs r (hpm2.mem_iff.mp hr)) ((hpm2.map (·.1)).nodup_iff.mpr nd)
      have grA : heapRes (A : Int) (.list ((ms.map (·.2)).map pairP)) = none → Asc (ps.map (·.2)) ∧ (ps.map (·.2)).Perm ((itemsD (.list ((ms.map (·.2)).map pairP))).map pairD) := fun _ => ⟨asc, by
        rw [gI, pairD_pairs]
        exact hpm2.symm⟩
      have p00 : 0 ≤ p0.2.1 := (hrs _ (List.mem_map.mpr ⟨p0, hm0, rfl⟩)).1
      have eA : askD (A : Int) 2 (ps.map (·.2)) (.list ((ms.map (·.2)).map pairP)) (.int p0.2.1) = heapP ((ps.map (·.2)).drop 1) := by
        rw [ask_due2 (c := 0) gres p00]
        have h0 : atT (ps.map (·.2)) p0.2.1 = some 0 := by
          rw [e0]
          exact if_pos rfl
        unfold dueD
        rw [h0]
        show (if (2 : Int) = 1 then _ else if (2 : Int) = 0 then _ else heapP (stD (ps.map (·.2)) 0)) = _
        rw [if_neg (by decide), if_neg (by decide)]
        rfl
      refine iteN (by rw [e0] <;> rfl) ⟨_, rfl, _, rfl, _, rfl, q, _, 0, V.ref p0.1, rfl, rfl, SqT.of x54.L.x.hp.top, at0, p0.1, _, 0, V.int p0.2.1, rfl, rfl, SqT.of (x54.L.x.hp.row p0 hm0), rfl, m, 2, .ref g, .int p0.2.1, .list ((ms.map (·.2)).map pairP), .int p0.2.1, (A : Int), us, ps.map (·.2), rfl, x54.L.x.g.M, .lst x54.L.hg (dvAll_heap (mrow x54.L)), .int _, by rw [gI]; rw [hdI] at hzl; exact hzl, grA, fun H56 v56 S56 D56 => kQ _ _ ⟨by rw [← eA]; exact D56, x54.same S56⟩⟩
    obtain ⟨D60, x60⟩ := hR
    refine ⟨_, rfl, .inl ⟨rfl, _, SqL.of x60.L.hg⟩, g, _, _, rfl, rfl, x60.L.hg, ?_, ?_⟩
    · have := hpm.length_eq
      rw [List.length_map]
      exact Nat.lt_of_lt_of_le (show ms.length < 200 by omega) (by decide)
    have n61 : NL H60 (upd H60 g (.lst (ms.map fR ++ [V.non]))) := NL.upd x60.L.hg
    have D61 : Dv (upd H60 g (.lst (ms.map fR ++ [V.non]))) v (heapP ((ps.map (·.2)).drop 1)) := by
      cases D60 with
      | tup h1 h2 => exact .tup (n61 _ _ h1 (fun xs e => by cases e)) (dvAll_pairs_nl n61 h2)
    have tl : Told (heapP ((ps.map (·.2)).drop 1)) := .heap _ (fun r hr => hsh r (List.mem_of_mem_drop hr)) (by rw [List.length_drop, List.length_map]; omega)
    refine ⟨_, rfl, _, _, rfl, tl.dp D61, .inr (tl.ref D61), tl.sh, ?_⟩
    refine ⟨_, rfl, _, rfl, noPart (slA (n61 _ _ x60.L.x.hp.top (fun xs e => by cases e)) fun H62 a62 S62 h62 => ?_)⟩
    have h63 : H62 a62 = some (.tup ((ps.drop 1).map fun p => V.ref p.1)) := by
      have e := ctFrom (xs := ps.map fun p => V.ref p.1) (n := 1)
      rw [← List.map_drop] at e
      exact h62.trans (congrArg (fun z => some (HO.tup z)) e)
    have D62 : Dp K H62 (.ref a62) (heapP ((ps.map (·.2)).drop 1)) := by
      rw [← List.map_drop]
      exact .tup (SqT.of h63) (dp_heap fun p hp => S62 _ _ (n61 _ _ (x60.L.x.hp.row p (List.mem_of_mem_drop hp)) (fun xs e => by cases e)))
    refine ⟨_, _, rfl, D62, .inr ⟨_, rfl⟩, tl.sh, rfl, ?_⟩
    show Q (.bl (decide (V.str _ = V.str _))) _
    rw [decide_eq_true rfl]
    exact k _
end
end Lk

set_option Elab.async false
set_option linter.all false
set_option maxRecDepth 100000
set_option maxHeartbeats 4000000
namespace Lk
open PySem L2
theorem mk_is_integer {K : PySem.W.Frag} {h : Heap} {mg : Str → Option Value} {f : Addr} {od an : Option Addr} {sl : Array (Option Value)} {oc kV dc pm cd ct : Value} (X : K.In h) (G : h.Ns mainGlobals mg) (a : PySem.W.nsIn K mainGlobals "is_integer" = some (some (.ref f))) (l : K.lookup f = some ⟨oc, od, .func (PySem.W.fnOf "is_integer" "is_integer" (defArgs s_is_integer) (defBody s_is_integer) (defScope s_is_integer) .none kV dc pm an cd ct), sl⟩) (c : PySem.W.codeIn K cd "is_integer" = true) (k : PySem.W.keepIn K (.ref f) = true) :
    Df K mg "is_integer" s_is_integer f (PySem.W.fnOf "is_integer" "is_integer" (defArgs s_is_integer) (defBody s_is_integer) (defScope s_is_integer) .none kV dc pm an cd ct) P_is_integer := ⟨fun_mk (st := s_is_integer) l c k, PySem.W.mg_of X G a, (fun_mk (st := s_is_integer) l c k).binds fun _ _ _ _ _ _ us hl => match us, hl with | [_], _ => rfl⟩
theorem mk_is_number {K : PySem.W.Frag} {h : Heap} {mg : Str → Option Value} {f : Addr} {od an : Option Addr} {sl : Array (Option Value)} {oc kV dc pm cd ct : Value} (X : K.In h) (G : h.Ns mainGlobals mg) (a : PySem.W.nsIn K mainGlobals "is_number" = some (some (.ref f))) (l : K.lookup f = some ⟨oc, od, .func (PySem.W.fnOf "is_number" "is_number" (defArgs s_is_number) (defBody s_is_number) (defScope s_is_number) .none kV dc pm an cd ct), sl⟩) (c : PySem.W.codeIn K cd "is_number" = true) (k : PySem.W.keepIn K (.ref f) = true) :
    Df K mg "is_number" s_is_number f (PySem.W.fnOf "is_number" "is_number" (defArgs s_is_number) (defBody s_is_number) (defScope s_is_number) .none kV dc pm an cd ct) P_is_number := ⟨fun_mk (st := s_is_number) l c k, PySem.W.mg_of X G a, (fun_mk (st := s_is_number) l c k).binds fun _ _ _ _ _ _ us hl => match us, hl with | [_], _ => rfl⟩
theorem mk_is_below {K : PySem.W.Frag} {h : Heap} {mg : Str → Option Value} {f : Addr} {od an : Option Addr} {sl : Array (Option Value)} {oc kV dc pm cd ct : Value} (X : K.In h) (G : h.Ns mainGlobals mg) (a : PySem.W.nsIn K mainGlobals "is_below" = some (some (.ref f))) (l : K.lookup f = some ⟨oc, od, .func (PySem.W.fnOf "is_below" "is_below" (defArgs s_is_below) (defBody s_is_below) (defScope s_is_below) .none kV dc pm an cd ct), sl⟩) (c : PySem.W.codeIn K cd "is_below" = true) (k : PySem.W.keepIn K (.ref f) = true) :
    Df K mg "is_below" s_is_below f (PySem.W.fnOf "is_below" "is_below" (defArgs s_is_below) (defBody s_is_below) (defScope s_is_below) .none kV dc pm an cd ct) P_is_below := ⟨fun_mk (st := s_is_below) l c k, PySem.W.mg_of X G a, (fun_mk (st := s_is_below) l c k).binds fun _ _ _ _ _ _ us hl => match us, hl with | [_, _], _ => rfl⟩
theorem mk_is_sequence {K : PySem.W.Frag} {h : Heap} {mg : Str → Option Value} {f : Addr} {od an : Option Addr} {sl : Array (Option Value)} {oc kV dc pm cd ct : Value} (X : K.In h) (G : h.Ns mainGlobals mg) (a : PySem.W.nsIn K mainGlobals "is_sequence" = some (some (.ref f))) (l : K.lookup f = some ⟨oc, od, .func (PySem.W.fnOf "is_sequence" "is_sequence" (defArgs s_is_sequence) (defBody s_is_sequence) (defScope s_is_sequence) .none kV dc pm an cd ct), sl⟩) (c : PySem.W.codeIn K cd "is_sequence" = true) (k : PySem.W.keepIn K (.ref f) = true) :
    Df K mg "is_sequence" s_is_sequence f (PySem.W.fnOf "is_sequence" "is_sequence" (defArgs s_is_sequence) (defBody s_is_sequence) (defScope s_is_sequence) .none kV dc pm an cd ct) P_is_sequence := ⟨fun_mk (st := s_is_sequence) l c k, PySem.W.mg_of X G a, (fun_mk (st := s_is_sequence) l c k).binds fun _ _ _ _ _ _ us hl => match us, hl with | [_], _ => rfl⟩
theorem mk_are_below {K : PySem.W.Frag} {h : Heap} {mg : Str → Option Value} {f : Addr} {od an : Option Addr} {sl : Array (Option Value)} {oc kV dc pm cd ct : Value} (X : K.In h) (G : h.Ns mainGlobals mg) (a : PySem.W.nsIn K mainGlobals "are_below" = some (some (.ref f))) (l : K.lookup f = some ⟨oc, od, .func (PySem.W.fnOf "are_below" "are_below" (defArgs s_are_below) (defBody s_are_below) (defScope s_are_below) .none kV dc pm an cd ct), sl⟩) (c : PySem.W.codeIn K cd "are_below" = true) (k : PySem.W.keepIn K (.ref f) = true) :
    Df K mg "are_below" s_are_below f (PySem.W.fnOf "are_below" "are_below" (defArgs s_are_below) (defBody s_are_below) (defScope s_are_below) .none kV dc pm an cd ct) P_are_below := ⟨fun_mk (st := s_are_below) l c k, PySem.W.mg_of X G a, (fun_mk (st := s_are_below) l c k).binds fun _ _ _ _ _ _ us hl => match us, hl with | [_, _], _ => rfl⟩
theorem mk_is_entry {K : PySem.W.Frag} {h : Heap} {mg : Str → Option Value} {f : Addr} {od an : Option Addr} {sl : Array (Option Value)} {oc kV dc pm cd ct : Value} (X : K.In h) (G : h.Ns mainGlobals mg) (a : PySem.W.nsIn K mainGlobals "_is_entry" = some (some (.ref f))) (l : K.lookup f = some ⟨oc, od, .func (PySem.W.fnOf "_is_entry" "_is_entry" (defArgs s_is_entry) (defBody s_is_entry) (defScope s_is_entry) .none kV dc pm an cd ct), sl⟩) (c : PySem.W.codeIn K cd "_is_entry" = true) (k : PySem.W.keepIn K (.ref f) = true) :
    Df K mg "_is_entry" s_is_entry f (PySem.W.fnOf "_is_entry" "_is_entry" (defArgs s_is_entry) (defBody s_is_entry) (defScope s_is_entry) .none kV dc pm an cd ct) P_is_entry := ⟨fun_mk (st := s_is_entry) l c k, PySem.W.mg_of X G a, (fun_mk (st := s_is_entry) l c k).binds fun _ _ _ _ _ _ us hl => match us, hl with | [_, _, _], _ => rfl⟩
theorem mk_is_command {K : PySem.W.Frag} {h : Heap} {mg : Str → Option Value} {f : Addr} {od an : Option Addr} {sl : Array (Option Value)} {oc kV dc pm cd ct : Value} (X : K.In h) (G : h.Ns mainGlobals mg) (a : PySem.W.nsIn K mainGlobals "is_command" = some (some (.ref f))) (l : K.lookup f = some ⟨oc, od, .func (PySem.W.fnOf "is_command" "is_command" (defArgs s_is_command) (defBody s_is_command) (defScope s_is_command) .none kV dc pm an cd ct), sl⟩) (c : PySem.W.codeIn K cd "is_command" = true) (k : PySem.W.keepIn K (.ref f) = true) :
    Df K mg "is_command" s_is_command f (PySem.W.fnOf "is_command" "is_command" (defArgs s_is_command) (defBody s_is_command) (defScope s_is_command) .none kV dc pm an cd ct) P_is_command := ⟨fun_mk (st := s_is_command) l c k, PySem.W.mg_of X G a, (fun_mk (st := s_is_command) l c k).binds fun _ _ _ _ _ _ us hl => match us, hl with | [_, _], _ => rfl⟩
theorem mk_is_slip {K : PySem.W.Frag} {h : Heap} {mg : Str → Option Value} {f : Addr} {od an : Option Addr} {sl : Array (Option Value)} {oc kV dc pm cd ct : Value} (X : K.In h) (G : h.Ns mainGlobals mg) (a : PySem.W.nsIn K mainGlobals "is_slip" = some (some (.ref f))) (l : K.lookup f = some ⟨oc, od, .func (PySem.W.fnOf "is_slip" "is_slip" (defArgs s_is_slip) (defBody s_is_slip) (defScope s_is_slip) .none kV dc pm an cd ct), sl⟩) (c : PySem.W.codeIn K cd "is_slip" = true) (k : PySem.W.keepIn K (.ref f) = true) :
    Df K mg "is_slip" s_is_slip f (PySem.W.fnOf "is_slip" "is_slip" (defArgs s_is_slip) (defBody s_is_slip) (defScope s_is_slip) .none kV dc pm an cd ct) P_is_slip := ⟨fun_mk (st := s_is_slip) l c k, PySem.W.mg_of X G a, (fun_mk (st := s_is_slip) l c k).binds fun _ _ _ _ _ _ us hl => match us, hl with | [_, _], _ => rfl⟩
theorem mk_checked_slip {K : PySem.W.Frag} {h : Heap} {mg : Str → Option Value} {f : Addr} {od an : Option Addr} {sl : Array (Option Value)} {oc kV dc pm cd ct : Value} (X : K.In h) (G : h.Ns mainGlobals mg) (a : PySem.W.nsIn K mainGlobals "checked_slip" = some (some (.ref f))) (l : K.lookup f = some ⟨oc, od, .func (PySem.W.fnOf "checked_slip" "checked_slip" (defArgs s_checked_slip) (defBody s_checked_slip) (defScope s_checked_slip) .none kV dc pm an cd ct), sl⟩) (c : PySem.W.codeIn K cd "checked_slip" = true) (k : PySem.W.keepIn K (.ref f) = true) :
    Df K mg "checked_slip" s_checked_slip f (PySem.W.fnOf "checked_slip" "checked_slip" (defArgs s_checked_slip) (defBody s_checked_slip) (defScope s_checked_slip) .none kV dc pm an cd ct) P_checked_slip := ⟨fun_mk (st := s_checked_slip) l c k, PySem.W.mg_of X G a, (fun_mk (st := s_checked_slip) l c k).binds fun _ _ _ _ _ _ us hl => match us, hl with | [_, _], _ => rfl⟩
theorem mk_checked_heap {K : PySem.W.Frag} {h : Heap} {mg : Str → Option Value} {f : Addr} {od an : Option Addr} {sl : Array (Option Value)} {oc kV dc pm cd ct : Value} (X : K.In h) (G : h.Ns mainGlobals mg) (a : PySem.W.nsIn K mainGlobals "checked_heap" = some (some (.ref f))) (l : K.lookup f = some ⟨oc, od, .func (PySem.W.fnOf "checked_heap" "checked_heap" (defArgs s_checked_heap) (defBody s_checked_heap) (defScope s_checked_heap) .none kV dc pm an cd ct), sl⟩) (c : PySem.W.codeIn K cd "checked_heap" = true) (k : PySem.W.keepIn K (.ref f) = true) :
    Df K mg "checked_heap" s_checked_heap f (PySem.W.fnOf "checked_heap" "checked_heap" (defArgs s_checked_heap) (defBody s_checked_heap) (defScope s_checked_heap) .none kV dc pm an cd ct) P_checked_heap := ⟨fun_mk (st := s_checked_heap) l c k, PySem.W.mg_of X G a, (fun_mk (st := s_checked_heap) l c k).binds fun _ _ _ _ _ _ us hl => match us, hl with | [_, _], _ => rfl⟩
theorem mk_exchange {K : PySem.W.Frag} {h : Heap} {mg : Str → Option Value} {f : Addr} {od an : Option Addr} {sl : Array (Option Value)} {oc kV dc pm cd ct : Value} (X : K.In h) (G : h.Ns mainGlobals mg) (a : PySem.W.nsIn K mainGlobals "exchange" = some (some (.ref f))) (l : K.lookup f = some ⟨oc, od, .func (PySem.W.fnOf "exchange" "exchange" (defArgs s_exchange) (defBody s_exchange) (defScope s_exchange) .none kV dc pm an cd ct), sl⟩) (c : PySem.W.codeIn K cd "exchange" = true) (k : PySem.W.keepIn K (.ref f) = true) :
    Df K mg "exchange" s_exchange f (PySem.W.fnOf "exchange" "exchange" (defArgs s_exchange) (defBody s_exchange) (defScope s_exchange) .none kV dc pm an cd ct) P_exchange := ⟨fun_mk (st := s_exchange) l c k, PySem.W.mg_of X G a, (fun_mk (st := s_exchange) l c k).binds fun _ _ _ _ _ _ us hl => match us, hl with | [_, _, _], _ => rfl⟩
theorem mk_swap {K : PySem.W.Frag} {h : Heap} {mg : Str → Option Value} {f : Addr} {od an : Option Addr} {sl : Array (Option Value)} {oc kV dc pm cd ct : Value} (X : K.In h) (G : h.Ns mainGlobals mg) (a : PySem.W.nsIn K mainGlobals "swap" = some (some (.ref f))) (l : K.lookup f = some ⟨oc, od, .func (PySem.W.fnOf "swap" "swap" (defArgs s_swap) (defBody s_swap) (defScope s_swap) .none kV dc pm an cd ct), sl⟩) (c : PySem.W.codeIn K cd "swap" = true) (k : PySem.W.keepIn K (.ref f) = true) :
    Df K mg "swap" s_swap f (PySem.W.fnOf "swap" "swap" (defArgs s_swap) (defBody s_swap) (defScope s_swap) .none kV dc pm an cd ct) P_swap := ⟨fun_mk (st := s_swap) l c k, PySem.W.mg_of X G a, (fun_mk (st := s_swap) l c k).binds fun _ _ _ _ _ _ us hl => match us, hl with | [_, _, _], _ => rfl⟩
theorem mk_strike {K : PySem.W.Frag} {h : Heap} {mg : Str → Option Value} {f : Addr} {od an : Option Addr} {sl : Array (Option Value)} {oc kV dc pm cd ct : Value} (X : K.In h) (G : h.Ns mainGlobals mg) (a : PySem.W.nsIn K mainGlobals "strike" = some (some (.ref f))) (l : K.lookup f = some ⟨oc, od, .func (PySem.W.fnOf "strike" "strike" (defArgs s_strike) (defBody s_strike) (defScope s_strike) .none kV dc pm an cd ct), sl⟩) (c : PySem.W.codeIn K cd "strike" = true) (k : PySem.W.keepIn K (.ref f) = true) :
    Df K mg "strike" s_strike f (PySem.W.fnOf "strike" "strike" (defArgs s_strike) (defBody s_strike) (defScope s_strike) .none kV dc pm an cd ct) P_strike := ⟨fun_mk (st := s_strike) l c k, PySem.W.mg_of X G a, (fun_mk (st := s_strike) l c k).binds fun _ _ _ _ _ _ us hl => match us, hl with | [_, _, _], _ => rfl⟩
theorem mk_place_of {K : PySem.W.Frag} {h : Heap} {mg : Str → Option Value} {f : Addr} {od an : Option Addr} {sl : Array (Option Value)} {oc kV dc pm cd ct : Value} (X : K.In h) (G : h.Ns mainGlobals mg) (a : PySem.W.nsIn K mainGlobals "_place_of" = some (some (.ref f))) (l : K.lookup f = some ⟨oc, od, .func (PySem.W.fnOf "_place_of" "_place_of" (defArgs s_place_of) (defBody s_place_of) (defScope s_place_of) .none kV dc pm an cd ct), sl⟩) (c : PySem.W.codeIn K cd "_place_of" = true) (k : PySem.W.keepIn K (.ref f) = true) :
    Df K mg "_place_of" s_place_of f (PySem.W.fnOf "_place_of" "_place_of" (defArgs s_place_of) (defBody s_place_of) (defScope s_place_of) .none kV dc pm an cd ct) P_place_of := ⟨fun_mk (st := s_place_of) l c k, PySem.W.mg_of X G a, (fun_mk (st := s_place_of) l c k).binds fun _ _ _ _ _ _ us hl => match us, hl with | [_, _], _ => rfl⟩
theorem mk_law_draw {K : PySem.W.Frag} {h : Heap} {mg : Str → Option Value} {f : Addr} {od an : Option Addr} {sl : Array (Option Value)} {oc kV dc pm cd ct : Value} (X : K.In h) (G : h.Ns mainGlobals mg) (a : PySem.W.nsIn K mainGlobals "_law_draw" = some (some (.ref f))) (l : K.lookup f = some ⟨oc, od, .func (PySem.W.fnOf "_law_draw" "_law_draw" (defArgs s_law_draw) (defBody s_law_draw) (defScope s_law_draw) .none kV dc pm an cd ct), sl⟩) (c : PySem.W.codeIn K cd "_law_draw" = true) (k : PySem.W.keepIn K (.ref f) = true) :
    Df K mg "_law_draw" s_law_draw f (PySem.W.fnOf "_law_draw" "_law_draw" (defArgs s_law_draw) (defBody s_law_draw) (defScope s_law_draw) .none kV dc pm an cd ct) P_law_draw := ⟨fun_mk (st := s_law_draw) l c k, PySem.W.mg_of X G a, (fun_mk (st := s_law_draw) l c k).binds fun _ _ _ _ _ _ us hl => match us, hl with | [_, _], _ => rfl⟩
theorem mk_law_any {K : PySem.W.Frag} {h : Heap} {mg : Str → Option Value} {f : Addr} {od an : Option Addr} {sl : Array (Option Value)} {oc kV dc pm cd ct : Value} (X : K.In h) (G : h.Ns mainGlobals mg) (a : PySem.W.nsIn K mainGlobals "_law_any" = some (some (.ref f))) (l : K.lookup f = some ⟨oc, od, .func (PySem.W.fnOf "_law_any" "_law_any" (defArgs s_law_any) (defBody s_law_any) (defScope s_law_any) .none kV dc pm an cd ct), sl⟩) (c : PySem.W.codeIn K cd "_law_any" = true) (k : PySem.W.keepIn K (.ref f) = true) :
    Df K mg "_law_any" s_law_any f (PySem.W.fnOf "_law_any" "_law_any" (defArgs s_law_any) (defBody s_law_any) (defScope s_law_any) .none kV dc pm an cd ct) P_law_any := ⟨fun_mk (st := s_law_any) l c k, PySem.W.mg_of X G a, (fun_mk (st := s_law_any) l c k).binds fun _ _ _ _ _ _ us hl => match us, hl with | [_, _], _ => rfl⟩
theorem mk_law_of {K : PySem.W.Frag} {h : Heap} {mg : Str → Option Value} {f : Addr} {od an : Option Addr} {sl : Array (Option Value)} {oc kV dc pm cd ct : Value} (X : K.In h) (G : h.Ns mainGlobals mg) (a : PySem.W.nsIn K mainGlobals "_law_of" = some (some (.ref f))) (l : K.lookup f = some ⟨oc, od, .func (PySem.W.fnOf "_law_of" "_law_of" (defArgs s_law_of) (defBody s_law_of) (defScope s_law_of) .none kV dc pm an cd ct), sl⟩) (c : PySem.W.codeIn K cd "_law_of" = true) (k : PySem.W.keepIn K (.ref f) = true) :
    Df K mg "_law_of" s_law_of f (PySem.W.fnOf "_law_of" "_law_of" (defArgs s_law_of) (defBody s_law_of) (defScope s_law_of) .none kV dc pm an cd ct) P_law_of := ⟨fun_mk (st := s_law_of) l c k, PySem.W.mg_of X G a, (fun_mk (st := s_law_of) l c k).binds fun _ _ _ _ _ _ us hl => match us, hl with | [_, _], _ => rfl⟩
theorem mk_law_mixed {K : PySem.W.Frag} {h : Heap} {mg : Str → Option Value} {f : Addr} {od an : Option Addr} {sl : Array (Option Value)} {oc kV dc pm cd ct : Value} (X : K.In h) (G : h.Ns mainGlobals mg) (a : PySem.W.nsIn K mainGlobals "_law_mixed" = some (some (.ref f))) (l : K.lookup f = some ⟨oc, od, .func (PySem.W.fnOf "_law_mixed" "_law_mixed" (defArgs s_law_mixed) (defBody s_law_mixed) (defScope s_law_mixed) .none kV dc pm an cd ct), sl⟩) (c : PySem.W.codeIn K cd "_law_mixed" = true) (k : PySem.W.keepIn K (.ref f) = true) :
    Df K mg "_law_mixed" s_law_mixed f (PySem.W.fnOf "_law_mixed" "_law_mixed" (defArgs s_law_mixed) (defBody s_law_mixed) (defScope s_law_mixed) .none kV dc pm an cd ct) P_law_mixed := ⟨fun_mk (st := s_law_mixed) l c k, PySem.W.mg_of X G a, (fun_mk (st := s_law_mixed) l c k).binds fun _ _ _ _ _ _ us hl => match us, hl with | [_, _], _ => rfl⟩
theorem mk_law_columns {K : PySem.W.Frag} {h : Heap} {mg : Str → Option Value} {f : Addr} {od an : Option Addr} {sl : Array (Option Value)} {oc kV dc pm cd ct : Value} (X : K.In h) (G : h.Ns mainGlobals mg) (a : PySem.W.nsIn K mainGlobals "_law_columns" = some (some (.ref f))) (l : K.lookup f = some ⟨oc, od, .func (PySem.W.fnOf "_law_columns" "_law_columns" (defArgs s_law_columns) (defBody s_law_columns) (defScope s_law_columns) .none kV dc pm an cd ct), sl⟩) (c : PySem.W.codeIn K cd "_law_columns" = true) (k : PySem.W.keepIn K (.ref f) = true) :
    Df K mg "_law_columns" s_law_columns f (PySem.W.fnOf "_law_columns" "_law_columns" (defArgs s_law_columns) (defBody s_law_columns) (defScope s_law_columns) .none kV dc pm an cd ct) P_law_columns := ⟨fun_mk (st := s_law_columns) l c k, PySem.W.mg_of X G a, (fun_mk (st := s_law_columns) l c k).binds fun _ _ _ _ _ _ us hl => match us, hl with | [_], _ => rfl⟩
theorem mk_law_column {K : PySem.W.Frag} {h : Heap} {mg : Str → Option Value} {f : Addr} {od an : Option Addr} {sl : Array (Option Value)} {oc kV dc pm cd ct : Value} (X : K.In h) (G : h.Ns mainGlobals mg) (a : PySem.W.nsIn K mainGlobals "_law_column" = some (some (.ref f))) (l : K.lookup f = some ⟨oc, od, .func (PySem.W.fnOf "_law_column" "_law_column" (defArgs s_law_column) (defBody s_law_column) (defScope s_law_column) .none kV dc pm an cd ct), sl⟩) (c : PySem.W.codeIn K cd "_law_column" = true) (k : PySem.W.keepIn K (.ref f) = true) :
    Df K mg "_law_column" s_law_column f (PySem.W.fnOf "_law_column" "_law_column" (defArgs s_law_column) (defBody s_law_column) (defScope s_law_column) .none kV dc pm an cd ct) P_law_column := ⟨fun_mk (st := s_law_column) l c k, PySem.W.mg_of X G a, (fun_mk (st := s_law_column) l c k).binds fun _ _ _ _ _ _ us hl => match us, hl with | [_, _, _], _ => rfl⟩
theorem mk_law_machine {K : PySem.W.Frag} {h : Heap} {mg : Str → Option Value} {f : Addr} {od an : Option Addr} {sl : Array (Option Value)} {oc kV dc pm cd ct : Value} (X : K.In h) (G : h.Ns mainGlobals mg) (a : PySem.W.nsIn K mainGlobals "_law_machine" = some (some (.ref f))) (l : K.lookup f = some ⟨oc, od, .func (PySem.W.fnOf "_law_machine" "_law_machine" (defArgs s_law_machine) (defBody s_law_machine) (defScope s_law_machine) .none kV dc pm an cd ct), sl⟩) (c : PySem.W.codeIn K cd "_law_machine" = true) (k : PySem.W.keepIn K (.ref f) = true) :
    Df K mg "_law_machine" s_law_machine f (PySem.W.fnOf "_law_machine" "_law_machine" (defArgs s_law_machine) (defBody s_law_machine) (defScope s_law_machine) .none kV dc pm an cd ct) P_law_machine := ⟨fun_mk (st := s_law_machine) l c k, PySem.W.mg_of X G a, (fun_mk (st := s_law_machine) l c k).binds fun _ _ _ _ _ _ us hl => match us, hl with | [_, _], _ => rfl⟩
theorem mk_law_heap {K : PySem.W.Frag} {h : Heap} {mg : Str → Option Value} {f : Addr} {od an : Option Addr} {sl : Array (Option Value)} {oc kV dc pm cd ct : Value} (X : K.In h) (G : h.Ns mainGlobals mg) (a : PySem.W.nsIn K mainGlobals "_law_heap" = some (some (.ref f))) (l : K.lookup f = some ⟨oc, od, .func (PySem.W.fnOf "_law_heap" "_law_heap" (defArgs s_law_heap) (defBody s_law_heap) (defScope s_law_heap) .none kV dc pm an cd ct), sl⟩) (c : PySem.W.codeIn K cd "_law_heap" = true) (k : PySem.W.keepIn K (.ref f) = true) :
    Df K mg "_law_heap" s_law_heap f (PySem.W.fnOf "_law_heap" "_law_heap" (defArgs s_law_heap) (defBody s_law_heap) (defScope s_law_heap) .none kV dc pm an cd ct) P_law_heap := ⟨fun_mk (st := s_law_heap) l c k, PySem.W.mg_of X G a, (fun_mk (st := s_law_heap) l c k).binds fun _ _ _ _ _ _ us hl => match us, hl with | [_, _, _], _ => rfl⟩
theorem mk_law_asked {K : PySem.W.Frag} {h : Heap} {mg : Str → Option Value} {f : Addr} {od an : Option Addr} {sl : Array (Option Value)} {oc kV dc pm cd ct : Value} (X : K.In h) (G : h.Ns mainGlobals mg) (a : PySem.W.nsIn K mainGlobals "_law_asked" = some (some (.ref f))) (l : K.lookup f = some ⟨oc, od, .func (PySem.W.fnOf "_law_asked" "_law_asked" (defArgs s_law_asked) (defBody s_law_asked) (defScope s_law_asked) .none kV dc pm an cd ct), sl⟩) (c : PySem.W.codeIn K cd "_law_asked" = true) (k : PySem.W.keepIn K (.ref f) = true) :
    Df K mg "_law_asked" s_law_asked f (PySem.W.fnOf "_law_asked" "_law_asked" (defArgs s_law_asked) (defBody s_law_asked) (defScope s_law_asked) .none kV dc pm an cd ct) P_law_asked := ⟨fun_mk (st := s_law_asked) l c k, PySem.W.mg_of X G a, (fun_mk (st := s_law_asked) l c k).binds fun _ _ _ _ _ _ us hl => match us, hl with | [_, _, _, _], _ => rfl⟩
theorem mk_law_place {K : PySem.W.Frag} {h : Heap} {mg : Str → Option Value} {f : Addr} {od an : Option Addr} {sl : Array (Option Value)} {oc kV dc pm cd ct : Value} (X : K.In h) (G : h.Ns mainGlobals mg) (a : PySem.W.nsIn K mainGlobals "_law_place" = some (some (.ref f))) (l : K.lookup f = some ⟨oc, od, .func (PySem.W.fnOf "_law_place" "_law_place" (defArgs s_law_place) (defBody s_law_place) (defScope s_law_place) .none kV dc pm an cd ct), sl⟩) (c : PySem.W.codeIn K cd "_law_place" = true) (k : PySem.W.keepIn K (.ref f) = true) :
    Df K mg "_law_place" s_law_place f (PySem.W.fnOf "_law_place" "_law_place" (defArgs s_law_place) (defBody s_law_place) (defScope s_law_place) .none kV dc pm an cd ct) P_law_place := ⟨fun_mk (st := s_law_place) l c k, PySem.W.mg_of X G a, (fun_mk (st := s_law_place) l c k).binds fun _ _ _ _ _ _ us hl => match us, hl with | [_, _], _ => rfl⟩
theorem mk_law_due {K : PySem.W.Frag} {h : Heap} {mg : Str → Option Value} {f : Addr} {od an : Option Addr} {sl : Array (Option Value)} {oc kV dc pm cd ct : Value} (X : K.In h) (G : h.Ns mainGlobals mg) (a : PySem.W.nsIn K mainGlobals "_law_due" = some (some (.ref f))) (l : K.lookup f = some ⟨oc, od, .func (PySem.W.fnOf "_law_due" "_law_due" (defArgs s_law_due) (defBody s_law_due) (defScope s_law_due) .none kV dc pm an cd ct), sl⟩) (c : PySem.W.codeIn K cd "_law_due" = true) (k : PySem.W.keepIn K (.ref f) = true) :
    Df K mg "_law_due" s_law_due f (PySem.W.fnOf "_law_due" "_law_due" (defArgs s_law_due) (defBody s_law_due) (defScope s_law_due) .none kV dc pm an cd ct) P_law_due := ⟨fun_mk (st := s_law_due) l c k, PySem.W.mg_of X G a, (fun_mk (st := s_law_due) l c k).binds fun _ _ _ _ _ _ us hl => match us, hl with | [_, _, _, _], _ => rfl⟩
theorem mk_law_bad_slip {K : PySem.W.Frag} {h : Heap} {mg : Str → Option Value} {f : Addr} {od an : Option Addr} {sl : Array (Option Value)} {oc kV dc pm cd ct : Value} (X : K.In h) (G : h.Ns mainGlobals mg) (a : PySem.W.nsIn K mainGlobals "_law_bad_slip" = some (some (.ref f))) (l : K.lookup f = some ⟨oc, od, .func (PySem.W.fnOf "_law_bad_slip" "_law_bad_slip" (defArgs s_law_bad_slip) (defBody s_law_bad_slip) (defScope s_law_bad_slip) .none kV dc pm an cd ct), sl⟩) (c : PySem.W.codeIn K cd "_law_bad_slip" = true) (k : PySem.W.keepIn K (.ref f) = true) :
    Df K mg "_law_bad_slip" s_law_bad_slip f (PySem.W.fnOf "_law_bad_slip" "_law_bad_slip" (defArgs s_law_bad_slip) (defBody s_law_bad_slip) (defScope s_law_bad_slip) .none kV dc pm an cd ct) P_law_bad_slip := ⟨fun_mk (st := s_law_bad_slip) l c k, PySem.W.mg_of X G a, (fun_mk (st := s_law_bad_slip) l c k).binds fun _ _ _ _ _ _ us hl => match us, hl with | [_, _, _], _ => rfl⟩
/-- an error of a class is taken by a clause that names the class, or not -/
theorem exm_of {K : PySem.W.Frag} {S R : Addr} {b : Bool} (h1 : PySem.W.subIn K (.ref R) (.type "BaseException") = some true) (h2 : PySem.W.isClsIn K R = true) (h3 : PySem.W.typeIn K (.ref R) = some (.type "type")) (h4 : PySem.W.subIn K (.ref S) (.ref R) = some b) : PySem.W.exmOne K (.ref S) (.ref R) = some b := by
  have e1 : (PySem.W.subIn K (.ref R) (.type "BaseException") == some true) = true := by rw [h1] <;> rfl
  have e2 : ((PySem.W.clsIn K R).isSome && PySem.W.typeIn K (.ref R) == some (.type "type")) = true := by
    have q : (PySem.W.clsIn K R).isSome = true := h2
    rw [q, h3] <;> rfl
  show (if (PySem.W.subIn K (.ref R) (.type "BaseException") == some true) = true then (if ((PySem.W.clsIn K R).isSome && PySem.W.typeIn K (.ref R) == some (.type "type")) = true then PySem.W.subIn K (.ref S) (.ref R) else none) else none) = some b
  rw [if_pos e1, if_pos e2]
  exact h4
/-- what is told of an error's class and of its __init__ -/
structure ErrF (K : PySem.W.Frag) (C fI : Addr) : Prop where
  sa : PySem.W.findIn K (.ref C) "__setattr__" = some (some (.builtin "object.__setattr__"))
  ga : PySem.W.findIn K (.ref C) "__getattribute__" = some (some (.builtin "BaseException.__getattribute__"))
  gg : PySem.W.findIn K (.ref C) "__getattr__" = some none
  nb : PySem.W.findIn K (.ref C) "at" = some none
  a : PySem.W.findIn K (.ref C) "__init__" = some (some (.ref fI))
  t : PySem.W.typeIn K (.ref fI) = some (.type "function")
  k : PySem.W.keepIn K (.ref C) = true
  e : PySem.W.subIn K (.ref C) (.type "BaseException") = some true
  tC : PySem.W.typeIn K (.ref C) = some (.type "type")
  h : PySem.W.hasDictIn K C = true
  i : PySem.W.isClsIn K C = true
  s : PySem.W.subIn K (.ref C) (.ref C) = some true
theorem err_mk {K : PySem.W.Frag} {h : Heap} {mg : Str → Option Value} {cn qn : Str} {C fI : Addr} {st : Stmt} {od an : Option Addr} {sl : Array (Option Value)} {oc dc pm cd ct : Value} {p1 p2 q1 q2 q3 q4 : Pos} {nm q : Str} {S N : Addr} {bs : List Value} {sn : List Str} {sub : List Value} {ab : Bool} {col : Option Bool} {dd : Option Addr} {m0 m1 m2 m3 m5 : Option Value} (X : K.In h) (G : h.Ns mainGlobals mg) (aC : PySem.W.nsIn K mainGlobals cn = some (some (.ref C))) (xL : K.lookup C = some (excClassObj nm q C N bs [.ref S, .type "ValueError", .type "Exception", .type "BaseException", .type "object"] true sn sub ab col dd m0 m1 m2 m3 m5 "ValueError.__new__")) (F : ErrF K C fI)
    (l : K.lookup fI = some ⟨oc, od, .func (PySem.W.fnOf "__init__" qn (defArgs st) (defBody st) (defScope st) .none .none dc pm an cd ct), sl⟩) (c : PySem.W.codeIn K cd qn = true) (e1 : defArgs st = PySem.ErrX.iA p1 p2) (e2 : defBody st = PySem.ErrX.iB q1 q2 q3 q4) (e3 : defScope st = PySem.ErrX.iS) : PySem.ErrX.ErrTxt K mg cn qn C fI := by
  rw [e1, e2, e3] at l
  exact { gC := PySem.W.mg_of X G aC, cls := ⟨nm, q, N, bs, _, sn, sub, ab, col, dd, m0, m1, m2, m3, m5, xL, by show PySem.HandSPX.refsVE [.type "ValueError", .type "Exception", .type "BaseException", .type "object"] = true; decide +kernel⟩, sa := F.sa, ga := F.ga, gg := F.gg, noN := F.nb, iC := F.a, tC := F.t, kC := F.k, exC := F.e, tyC := F.tC, hdC := F.h, te := exm_of F.e F.i F.tC F.s, fn := ⟨oc, od, dc, pm, an, cd, ct, sl, _, _, _, _, _, _, l, c⟩ }
end Lk

set_option Elab.async false
set_option linter.all false
set_option maxRecDepth 100000
set_option maxHeartbeats 8000000
namespace Lk
open PySem L2
/-- what is told of the class Machine -/
structure MacF (K : PySem.W.Frag) (CM fI : Addr) : Prop where
  pg : PySem.W.plainGet K CM Str.empty = true
  hd : PySem.W.hasDictIn K CM = true
  po : PySem.W.plainOver K CM = true
  sa : PySem.W.findIn K (.ref CM) "__setattr__" = some (some (.builtin "object.__setattr__"))
  n1 : PySem.W.findIn K (.ref CM) "commands" = some none
  n2 : PySem.W.findIn K (.ref CM) "states" = some none
  n3 : PySem.W.findIn K (.ref CM) "steps" = some none
  mkI : PySem.W.makesIn K CM = true
  ini : PySem.W.findIn K (.ref CM) "__init__" = some (some (.ref fI))
  fnI : PySem.W.isFn K (.ref fI) = true
  kp : PySem.W.keepIn K (.ref CM) = true
theorem all_mk {l : PySem.W.OpenLaw} {w : World} {K : PySem.W.Frag} {h : Heap} {mg : Str → Option Value} {fa f42 CM fI CE fCE CI fCI CR fCR : Addr} {f_is_integer f_is_number f_is_below f_is_sequence f_are_below f_is_entry f_is_command f_is_slip f_checked_slip f_checked_heap f_exchange f_swap f_strike f_place_of f_law_draw f_law_any f_law_of f_law_mixed f_law_columns f_law_column f_law_machine f_law_heap f_law_asked f_law_place f_law_due f_law_bad_slip : Addr} {g_is_integer g_is_number g_is_below g_is_sequence g_are_below g_is_entry g_is_command g_is_slip g_checked_slip g_checked_heap g_exchange g_swap g_strike g_place_of g_law_draw g_law_any g_law_of g_law_mixed g_law_columns g_law_column g_law_machine g_law_heap g_law_asked g_law_place g_law_due g_law_bad_slip : FuncData}
    {od1 an1 od2 an2 : Option Addr} {sl1 sl2 : Array (Option Value)} {oc1 kV1 dc1 pm1 cd1 ct1 oc2 kV2 dc2 pm2 cd2 ct2 : Value} (X : K.In h) (G : h.Ns mainGlobals mg) (hfa : mg "law" = some (.ref fa))
    (d_is_integer : Df K mg "is_integer" s_is_integer f_is_integer g_is_integer P_is_integer)
    (d_is_number : Df K mg "is_number" s_is_number f_is_number g_is_number P_is_number)
    (d_is_below : Df K mg "is_below" s_is_below f_is_below g_is_below P_is_below)
    (d_is_sequence : Df K mg "is_sequence" s_is_sequence f_is_sequence g_is_sequence P_is_sequence)
    (d_are_below : Df K mg "are_below" s_are_below f_are_below g_are_below P_are_below)
    (d_is_entry : Df K mg "_is_entry" s_is_entry f_is_entry g_is_entry P_is_entry)
    (d_is_command : Df K mg "is_command" s_is_command f_is_command g_is_command P_is_command)
    (d_is_slip : Df K mg "is_slip" s_is_slip f_is_slip g_is_slip P_is_slip)
    (d_checked_slip : Df K mg "checked_slip" s_checked_slip f_checked_slip g_checked_slip P_checked_slip)
    (d_checked_heap : Df K mg "checked_heap" s_checked_heap f_checked_heap g_checked_heap P_checked_heap)
    (d_exchange : Df K mg "exchange" s_exchange f_exchange g_exchange P_exchange)
    (d_swap : Df K mg "swap" s_swap f_swap g_swap P_swap)
    (d_strike : Df K mg "strike" s_strike f_strike g_strike P_strike)
    (d_place_of : Df K mg "_place_of" s_place_of f_place_of g_place_of P_place_of)
    (d_law_draw : Df K mg "_law_draw" s_law_draw f_law_draw g_law_draw P_law_draw)
    (d_law_any : Df K mg "_law_any" s_law_any f_law_any g_law_any P_law_any)
    (d_law_of : Df K mg "_law_of" s_law_of f_law_of g_law_of P_law_of)
    (d_law_mixed : Df K mg "_law_mixed" s_law_mixed f_law_mixed g_law_mixed P_law_mixed)
    (d_law_columns : Df K mg "_law_columns" s_law_columns f_law_columns g_law_columns P_law_columns)
    (d_law_column : Df K mg "_law_column" s_law_column f_law_column g_law_column P_law_column)
    (d_law_machine : Df K mg "_law_machine" s_law_machine f_law_machine g_law_machine P_law_machine)
    (d_law_heap : Df K mg "_law_heap" s_law_heap f_law_heap g_law_heap P_law_heap)
    (d_law_asked : Df K mg "_law_asked" s_law_asked f_law_asked g_law_asked P_law_asked)
    (d_law_place : Df K mg "_law_place" s_law_place f_law_place g_law_place P_law_place)
    (d_law_due : Df K mg "_law_due" s_law_due f_law_due g_law_due P_law_due)
    (d_law_bad_slip : Df K mg "_law_bad_slip" s_law_bad_slip f_law_bad_slip g_law_bad_slip P_law_bad_slip)
    (a1 : PySem.W.nsIn K mainGlobals "law" = some (some (.ref f42))) (l1 : K.lookup f42 = some ⟨oc1, od1, .func (PySem.W.fnOf "law" "law" (defArgs s_law) (defBody s_law) (defScope s_law) .none kV1 dc1 pm1 an1 cd1 ct1), sl1⟩) (c1 : PySem.W.codeIn K cd1 "law" = true) (k1 : PySem.W.keepIn K (.ref f42) = true)
    (aM : PySem.W.nsIn K mainGlobals "Machine" = some (some (.ref CM))) (MF : MacF K CM fI)
    (l2 : K.lookup fI = some ⟨oc2, od2, .func (PySem.W.fnOf "__init__" "Machine.__init__" (defArgs s_Machine___init) (defBody s_Machine___init) (defScope s_Machine___init) .none kV2 dc2 pm2 an2 cd2 ct2), sl2⟩) (c2 : PySem.W.codeIn K cd2 "Machine.__init__" = true) (k2 : PySem.W.keepIn K (.ref fI) = true)
    (EM : PySem.ErrX.ErrTxt K mg "InvalidMachine" "InvalidMachine.__init__" CE fCE) (EI : PySem.ErrX.ErrTxt K mg "InvalidSlip" "InvalidSlip.__init__" CI fCI) (ER : PySem.ErrX.ErrTxt K mg "Refused" "Refused.__init__" CR fCR) (ne : PySem.W.exmOne K (.ref CR) (.ref CI) = some false)
    (zset : mg "set" = none) (zsorted : mg "sorted" = none) (T : Txt mg) :
    ∃ fd : FuncData, (∀ (s : Shared) (v : Value), BindsTo s fd ⟨[v], []⟩ [("script", v)]) ∧ ∀ base : Heap, K.In base → base.Ns mainGlobals mg → FnG l.prog w K mg base 10 fa fd ["script"] (spLaw K) := by
  have e := hfa.symm.trans (PySem.W.mg_of X G a1)
  cases e
  have TC : TxC K CM := ⟨⟨MF.pg, MF.hd, MF.po, MF.sa⟩, MF.n1, MF.n2, MF.n3⟩
  have gM := PySem.W.mg_of X G aM
  have FI := fun_mk (st := s_Machine___init) l2 c2 k2
  have bI := FI.binds (ps := P_Machine___init) fun _ _ _ _ _ _ us hl => match us, hl with | [_, _, _], _ => rfl
  have MC := McT.mk (⟨MF.mkI, MF.ini, MF.fnI, MF.kp⟩ : Mk K CM fI) gM bI (kbn_rev FI fun _ _ _ _ _ _ us ws h1 h2 => match us, ws, h1, h2 with | [_], [_, _], _, _ => by first | rfl | with_unfolding_all rfl | kernel_rfl)
  have k_exchange : KBn K g_exchange P_exchange 0 ["slip", "heap", "machine"] uRev kRev := kbn_rev d_exchange.F fun _ _ _ _ _ _ us ws h1 h2 => match us, ws, h1, h2 with | [], [_, _, _], _, _ => by first | rfl | with_unfolding_all rfl | kernel_rfl
  have k_swap : KBn K g_swap P_swap 0 ["time", "heap", "machine"] uRev kRev := kbn_rev d_swap.F fun _ _ _ _ _ _ us ws h1 h2 => match us, ws, h1, h2 with | [], [_, _, _], _, _ => by first | rfl | with_unfolding_all rfl | kernel_rfl
  have k_strike : KBn K g_strike P_strike 0 ["time", "heap", "machine"] uRev kRev := kbn_rev d_strike.F fun _ _ _ _ _ _ us ws h1 h2 => match us, ws, h1, h2 with | [], [_, _, _], _, _ => by first | rfl | with_unfolding_all rfl | kernel_rfl
  refine ⟨PySem.W.fnOf "law" "law" (defArgs s_law) (defBody s_law) (defScope s_law) .none kV1 dc1 pm1 an1 cd1 ct1, fun s v => .of_eq rfl, fun base _ _ => ?_⟩
  have A0 : Df K mg "law" s_law fa (PySem.W.fnOf "law" "law" (defArgs s_law) (defBody s_law) (defScope s_law) .none kV1 dc1 pm1 an1 cd1 ct1) P_law := ⟨fun_mk (st := s_law) l1 c1 k1, PySem.W.mg_of X G a1, (fun_mk (st := s_law) l1 c1 k1).binds fun _ _ _ _ _ _ us hl => match us, hl with | [_], _ => rfl⟩
  have G_is_number : FnOk l.prog w K mg base CX0 2 f_is_number g_is_number P_is_number (spT1 isN) := ok_number d_is_number d_is_integer T
  have G_is_below : FnOk l.prog w K mg base CX0 3 f_is_below g_is_below P_is_below spBelowS := ok_below d_is_below d_is_number d_is_integer T
  have GI : FnOk l.prog w K mg base (L2.CX l.prog w) 7 fI _ P_Machine___init (spInit CM CE) := ok_init FI d_is_entry d_is_sequence d_are_below d_is_below d_is_number d_is_integer T TC EM
  have G_is_command : FnOk l.prog w K mg base CX0 4 f_is_command g_is_command P_is_command (spCommand CM) := ok_command d_is_command d_is_below G_is_below TC
  have G_slip : FnOk l.prog w K mg base CX0 5 f_is_slip g_is_slip P_is_slip (spSlip CM) := ok_slip d_is_slip d_is_number d_is_command G_is_number G_is_command T
  have G_cslip : FnOk l.prog w K mg base (L2.CX l.prog w) 6 f_checked_slip g_checked_slip P_checked_slip (spCSlip CM CI) := ok_cslip d_checked_slip d_is_slip G_slip EI
  have G_heap : FnOk l.prog w K mg base (L2.CX l.prog w) 7 f_checked_heap g_checked_heap P_checked_heap (spHeap CM CI) := ok_heap d_checked_heap d_is_sequence d_is_slip G_slip T zset zsorted EI
  have G_place : FnOk l.prog w K mg base (L2.CX l.prog w) 7 f_place_of g_place_of P_place_of (spPlace CR) := ok_place_of d_place_of d_is_number G_is_number ER
  have G_exch : FnOk l.prog w K mg base (L2.CX l.prog w) 8 f_exchange g_exchange P_exchange (spExch CM CI CR) := ok_exchange d_exchange d_checked_heap d_checked_slip d_place_of G_heap G_cslip G_place
  have G_swap : FnOk l.prog w K mg base (L2.CX l.prog w) 8 f_swap g_swap P_swap (spSwap CM CI CR) := ok_swap d_swap d_checked_heap d_place_of G_heap G_place T ER
  have G_strike : FnOk l.prog w K mg base (L2.CX l.prog w) 8 f_strike g_strike P_strike (spStrike CM CI CR) := ok_strike d_strike d_checked_heap d_place_of G_heap G_place
  have GM : FnOk l.prog w K mg base CX0 4 f_law_machine g_law_machine P_law_machine spMachine := ok_machine d_law_machine d_law_any d_law_of d_law_mixed d_law_columns d_law_column T
  have G_asked : FnOk l.prog w K mg base CX0 9 f_law_asked g_law_asked P_law_asked (spAsked CM) := ok_asked d_law_asked d_exchange d_swap d_strike k_exchange k_swap k_strike G_exch G_swap G_strike EI ER ne
  have G_place1 : FnOk l.prog w K mg base CX0 1 f_law_place g_law_place P_law_place spLPlace := ok_lplace d_law_place T
  have G_due : FnOk l.prog w K mg base CX0 2 f_law_due g_law_due P_law_due spLDue := ok_ldue d_law_due d_law_place G_place1 T
  exact ok_law A0 d_law_draw d_law_machine d_law_any d_law_of d_law_heap d_law_mixed d_law_asked d_law_due d_law_bad_slip GM G_asked G_due MC GI T
theorem walk {l : PySem.W.OpenLaw} {q : Program} {loose : List Str} {XP : (Str → Option Value) → Heap → Prop} {YP : World → Heap → Prop} {d : DefRec} {K : Params → PySem.W.Frag} (hn : l.most = some 63) (hdf : d.params.defaults = []) (hY : ∀ (w : World) (h : Heap), YP w h → (K w.params).In h)
    (F : ∀ (w : World) (mg : Str → Option Value) (fa : Addr) (h : Heap), (K w.params).In h → h.Ns mainGlobals mg → mg d.name = some (.ref fa) → ∃ fd : FuncData, (∀ (s : Shared) (u : Value), BindsTo s fd ⟨[u], []⟩ [("script", u)]) ∧ ∀ base : Heap, (K w.params).In base → base.Ns mainGlobals mg → FnG l.prog w (K w.params) mg base 10 fa fd ["script"] (spLaw (K w.params))) :
    PySem.W.WalkO q loose XP YP l.row.toRowW d [] (fun f vs => PySem.call f vs) :=
  walk_G (n := 63) (k := 10) (x := "script") (sp := fun w => spLaw (K w.params)) hn (by decide) hdf ⟨rfl, by decide, by decide⟩ hY F fun _ _ a ns hl hS => ⟨a, ns, rfl, hS, hl, fun _ => rfl⟩
end Lk

set_option Elab.async false
open PySem PySem.W PyProof.Rows in
set_option maxRecDepth 100000 in
set_option maxHeartbeats 0 in
theorem PySem.Challenge.cw_lateslips_k43_corrections_of_heaps_holds : PySem.Challenge.rw_lateslips_k43_corrections_of_heaps.Holds := by
  w_on; o_law; k_head; (case hw => w_witness2)
  k_fill
  refine Lk.walk (l := PySem.Challenge.rw_lateslips_k43_corrections_of_heaps) rfl rfl (fun w h Y => PySem.W.kIn_of Y) ?F
  case F =>
    intro w mg fa h KX G hmg
    refine' Lk.all_mk KX G hmg (Lk.mk_is_integer KX G ?a_is_integer ?l_is_integer ?c_is_integer ?k_is_integer) (Lk.mk_is_number KX G ?a_is_number ?l_is_number ?c_is_number ?k_is_number) (Lk.mk_is_below KX G ?a_is_below ?l_is_below ?c_is_below ?k_is_below) (Lk.mk_is_sequence KX G ?a_is_sequence ?l_is_sequence ?c_is_sequence ?k_is_sequence) (Lk.mk_are_below KX G ?a_are_below ?l_are_below ?c_are_below ?k_are_below) (Lk.mk_is_entry KX G ?a_is_entry ?l_is_entry ?c_is_entry ?k_is_entry) (Lk.mk_is_command KX G ?a_is_command ?l_is_command ?c_is_command ?k_is_command) (Lk.mk_is_slip KX G ?a_is_slip ?l_is_slip ?c_is_slip ?k_is_slip) (Lk.mk_checked_slip KX G ?a_checked_slip ?l_checked_slip ?c_checked_slip ?k_checked_slip) (Lk.mk_checked_heap KX G ?a_checked_heap ?l_checked_heap ?c_checked_heap ?k_checked_heap) (Lk.mk_exchange KX G ?a_exchange ?l_exchange ?c_exchange ?k_exchange) (Lk.mk_swap KX G ?a_swap ?l_swap ?c_swap ?k_swap) (Lk.mk_strike KX G ?a_strike ?l_strike ?c_strike ?k_strike) (Lk.mk_place_of KX G ?a_place_of ?l_place_of ?c_place_of ?k_place_of) (Lk.mk_law_draw KX G ?a_law_draw ?l_law_draw ?c_law_draw ?k_law_draw) (Lk.mk_law_any KX G ?a_law_any ?l_law_any ?c_law_any ?k_law_any) (Lk.mk_law_of KX G ?a_law_of ?l_law_of ?c_law_of ?k_law_of) (Lk.mk_law_mixed KX G ?a_law_mixed ?l_law_mixed ?c_law_mixed ?k_law_mixed) (Lk.mk_law_columns KX G ?a_law_columns ?l_law_columns ?c_law_columns ?k_law_columns) (Lk.mk_law_column KX G ?a_law_column ?l_law_column ?c_law_column ?k_law_column) (Lk.mk_law_machine KX G ?a_law_machine ?l_law_machine ?c_law_machine ?k_law_machine) (Lk.mk_law_heap KX G ?a_law_heap ?l_law_heap ?c_law_heap ?k_law_heap) (Lk.mk_law_asked KX G ?a_law_asked ?l_law_asked ?c_law_asked ?k_law_asked) (Lk.mk_law_place KX G ?a_law_place ?l_law_place ?c_law_place ?k_law_place) (Lk.mk_law_due KX G ?a_law_due ?l_law_due ?c_law_due ?k_law_due) (Lk.mk_law_bad_slip KX G ?a_law_bad_slip ?l_law_bad_slip ?c_law_bad_slip ?k_law_bad_slip) ?a1 ?l1 ?c1 ?k1 ?aM ⟨?m_pg, ?m_hd, ?m_po, ?m_sa, ?m_n1, ?m_n2, ?m_n3, ?m_mkI, ?m_ini, ?m_fnI, ?m_kp⟩ ?l2 ?c2 ?k2 (Lk.err_mk (st := L2.inClass (Lk.top 2) 0) KX G ?e1_aC ?e1_xL ⟨?e1_sa, ?e1_ga, ?e1_gg, ?e1_nb, ?e1_a, ?e1_t, ?e1_k, ?e1_e, ?e1_tC, ?e1_h, ?e1_i, ?e1_s⟩ ?e1_l ?e1_c rfl rfl rfl) (Lk.err_mk (st := L2.inClass (Lk.top 3) 0) KX G ?e2_aC ?e2_xL ⟨?e2_sa, ?e2_ga, ?e2_gg, ?e2_nb, ?e2_a, ?e2_t, ?e2_k, ?e2_e, ?e2_tC, ?e2_h, ?e2_i, ?e2_s⟩ ?e2_l ?e2_c rfl rfl rfl) (Lk.err_mk (st := L2.inClass (Lk.top 4) 0) KX G ?e3_aC ?e3_xL ⟨?e3_sa, ?e3_ga, ?e3_gg, ?e3_nb, ?e3_a, ?e3_t, ?e3_k, ?e3_e, ?e3_tC, ?e3_h, ?e3_i, ?e3_s⟩ ?e3_l ?e3_c rfl rfl rfl) (Lk.exm_of ?ne01 ?ne02 ?ne03 ?ne04) (PySem.W.mg_none_of KX G ?z_set) (PySem.W.mg_none_of KX G ?z_sorted) ⟨PySem.W.mg_none_of KX G ?zt_len, PySem.W.mg_none_of KX G ?zt_abs, PySem.W.mg_none_of KX G ?zt_int, PySem.W.mg_none_of KX G ?zt_max, PySem.W.mg_none_of KX G ?zt_min, PySem.W.mg_none_of KX G ?zt_range, PySem.W.mg_none_of KX G ?zt_list, PySem.W.mg_none_of KX G ?zt_tuple, PySem.W.mg_none_of KX G ?zt_enumerate, PySem.W.mg_none_of KX G ?zt_zip, PySem.W.mg_none_of KX G ?zt_isinstance, PySem.W.mg_none_of KX G ?zt_all, PySem.W.mg_none_of KX G ?zt_bool, PySem.W.mg_none_of KX G ?zt_repr⟩
    (case a_is_integer => k_is)
    (case l_is_integer => k_is)
    (case c_is_integer => k_is)
    (case k_is_integer => k_is)
    (case a_is_number => k_is)
    (case l_is_number => k_is)
    (case c_is_number => k_is)
    (case k_is_number => k_is)
    (case a_is_below => k_is)
    (case l_is_below => k_is)
    (case c_is_below => k_is)
    (case k_is_below => k_is)
    (case a_is_sequence => k_is)
    (case l_is_sequence => k_is)
    (case c_is_sequence => k_is)
    (case k_is_sequence => k_is)
    (case a_are_below => k_is)
    (case l_are_below => k_is)
    (case c_are_below => k_is)
    (case k_are_below => k_is)
    (case a_is_entry => k_is)
    (case l_is_entry => k_is)
    (case c_is_entry => k_is)
    (case k_is_entry => k_is)
    (case a_is_command => k_is)
    (case l_is_command => k_is)
    (case c_is_command => k_is)
    (case k_is_command => k_is)
    (case a_is_slip => k_is)
    (case l_is_slip => k_is)
    (case c_is_slip => k_is)
    (case k_is_slip => k_is)
    (case a_checked_slip => k_is)
    (case l_checked_slip => k_is)
    (case c_checked_slip => k_is)
    (case k_checked_slip => k_is)
    (case a_checked_heap => k_is)
    (case l_checked_heap => k_is)
    (case c_checked_heap => k_is)
    (case k_checked_heap => k_is)
    (case a_exchange => k_is)
    (case l_exchange => k_is)
    (case c_exchange => k_is)
    (case k_exchange => k_is)
    (case a_swap => k_is)
    (case l_swap => k_is)
    (case c_swap => k_is)
    (case k_swap => k_is)
    (case a_strike => k_is)
    (case l_strike => k_is)
    (case c_strike => k_is)
    (case k_strike => k_is)
    (case a_place_of => k_is)
    (case l_place_of => k_is)
    (case c_place_of => k_is)
    (case k_place_of => k_is)
    (case a_law_draw => k_is)
    (case l_law_draw => k_is)
    (case c_law_draw => k_is)
    (case k_law_draw => k_is)
    (case a_law_any => k_is)
    (case l_law_any => k_is)
    (case c_law_any => k_is)
    (case k_law_any => k_is)
    (case a_law_of => k_is)
    (case l_law_of => k_is)
    (case c_law_of => k_is)
    (case k_law_of => k_is)
    (case a_law_mixed => k_is)
    (case l_law_mixed => k_is)
    (case c_law_mixed => k_is)
    (case k_law_mixed => k_is)
    (case a_law_columns => k_is)
    (case l_law_columns => k_is)
    (case c_law_columns => k_is)
    (case k_law_columns => k_is)
    (case a_law_column => k_is)
    (case l_law_column => k_is)
    (case c_law_column => k_is)
    (case k_law_column => k_is)
    (case a_law_machine => k_is)
    (case l_law_machine => k_is)
    (case c_law_machine => k_is)
    (case k_law_machine => k_is)
    (case a_law_heap => k_is)
    (case l_law_heap => k_is)
    (case c_law_heap => k_is)
    (case k_law_heap => k_is)
    (case a_law_asked => k_is)
    (case l_law_asked => k_is)
    (case c_law_asked => k_is)
    (case k_law_asked => k_is)
    (case a_law_place => k_is)
    (case l_law_place => k_is)
    (case c_law_place => k_is)
    (case k_law_place => k_is)
    (case a_law_due => k_is)
    (case l_law_due => k_is)
    (case c_law_due => k_is)
    (case k_law_due => k_is)
    (case a_law_bad_slip => k_is)
    (case l_law_bad_slip => k_is)
    (case c_law_bad_slip => k_is)
    (case k_law_bad_slip => k_is)
    (case a1 => k_is)
    (case l1 => k_is)
    (case c1 => k_is)
    (case k1 => k_is)
    (case aM => k_is)
    (case m_pg => first | k_is | rfl | decide +kernel)
    (case m_hd => first | k_is | rfl | decide +kernel)
    (case m_po => first | k_is | rfl | decide +kernel)
    (case m_sa => first | k_is | rfl | decide +kernel)
    (case m_n1 => first | k_is | rfl | decide +kernel)
    (case m_n2 => first | k_is | rfl | decide +kernel)
    (case m_n3 => first | k_is | rfl | decide +kernel)
    (case m_mkI => first | k_is | rfl | decide +kernel)
    (case m_ini => first | k_is | rfl | decide +kernel)
    (case m_fnI => first | k_is | rfl | decide +kernel)
    (case m_kp => first | k_is | rfl | decide +kernel)
    (case l2 => k_is)
    (case c2 => k_is)
    (case k2 => k_is)
    (case e1_aC => k_is)
    (case e1_xL => k_is)
    (case e1_sa => first | k_is | rfl)
    (case e1_ga => first | k_is | rfl)
    (case e1_gg => first | k_is | rfl)
    (case e1_nb => first | k_is | rfl)
    (case e1_a => first | k_is | rfl)
    (case e1_t => first | k_is | rfl)
    (case e1_k => first | k_is | rfl)
    (case e1_e => first | k_is | rfl)
    (case e1_tC => first | k_is | rfl)
    (case e1_h => first | k_is | rfl)
    (case e1_i => first | k_is | rfl)
    (case e1_s => first | k_is | rfl)
    (case e1_l => k_is)
    (case e1_c => k_is)
    (case e2_aC => k_is)
    (case e2_xL => k_is)
    (case e2_sa => first | k_is | rfl)
    (case e2_ga => first | k_is | rfl)
    (case e2_gg => first | k_is | rfl)
    (case e2_nb => first | k_is | rfl)
    (case e2_a => first | k_is | rfl)
    (case e2_t => first | k_is | rfl)
    (case e2_k => first | k_is | rfl)
    (case e2_e => first | k_is | rfl)
    (case e2_tC => first | k_is | rfl)
    (case e2_h => first | k_is | rfl)
    (case e2_i => first | k_is | rfl)
    (case e2_s => first | k_is | rfl)
    (case e2_l => k_is)
    (case e2_c => k_is)
    (case e3_aC => k_is)
    (case e3_xL => k_is)
    (case e3_sa => first | k_is | rfl)
    (case e3_ga => first | k_is | rfl)
    (case e3_gg => first | k_is | rfl)
    (case e3_nb => first | k_is | rfl)
    (case e3_a => first | k_is | rfl)
    (case e3_t => first | k_is | rfl)
    (case e3_k => first | k_is | rfl)
    (case e3_e => first | k_is | rfl)
    (case e3_tC => first | k_is | rfl)
    (case e3_h => first | k_is | rfl)
    (case e3_i => first | k_is | rfl)
    (case e3_s => first | k_is | rfl)
    (case e3_l => k_is)
    (case e3_c => k_is)
    (case ne01 => k_is)
    (case ne02 => k_is)
    (case ne03 => k_is)
    (case ne04 => first | k_is | rfl)
    (case z_set => k_is)
    (case z_sorted => k_is)
    (case zt_len => k_is)
    (case zt_abs => k_is)
    (case zt_int => k_is)
    (case zt_max => k_is)
    (case zt_min => k_is)
    (case zt_range => k_is)
    (case zt_list => k_is)
    (case zt_tuple => k_is)
    (case zt_enumerate => k_is)
    (case zt_zip => k_is)
    (case zt_isinstance => k_is)
    (case zt_all => k_is)
    (case zt_bool => k_is)
    (case zt_repr => k_is)
