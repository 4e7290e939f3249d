import PyProof.Rows.All
import Wide.All
import OpenK.AllK
import Wide.FinOn
import HandS.ForMost
import HandS.ForExc
import HandS.Wide
import HandS.Style
import HandS.Conv
import HandS.IsInst
import PySem.Challenge.RW_lateslips_k02_whole_kernels_of_rows
import KE.GoesMore
import PyProof.Draws
import HandS.WideBits
import PyProof.InstEq
import HandS.OwnEq
import HandS.Zip
import HandS.MakeKwOnly
import PyProof.ReprRoads
import PyProof.ReprLen
import HandS.RaiseMore
import HandS.TupAny
import HandS.Walk
import HandS.SetKeys
import HandS.Strs
import HandS.Deep
import HandS.TupSets
import KE.KDictDisplayH
import KE.KSetDisp
import HandS.SetIn
import KE.GoesSet
import HandS.More
import KE.KDictSum
import HandS.TupMul
set_option Elab.async false
set_option maxRecDepth 100000
namespace Lk
open PySem L2
def top (i : Nat) : Stmt := PySem.Challenge.pw_lateslips_k02_whole_kernels_of_rows.main.body.getD i (.Pass ⟨0, 0, 0, 0⟩)

/-! ### heaps: all but the deal stands -/
/-- what H tells stands in H', the two objects of the deal aside -/
def SB (d l : Addr) (H H' : Hp) : Prop := ∀ a o, H a = some o → a ≠ d → a ≠ l → H' a = some o
theorem SB.refl (d l : Addr) (H : Hp) : SB d l H H := fun _ _ h _ _ => h
theorem SB.trans {d l : Addr} {H H1 H2 : Hp} (x : SB d l H H1) (y : SB d l H1 H2) : SB d l H H2 := fun a o h n m => y a o (x a o h n m) n m
theorem SB.new {d l p : Addr} {H : Hp} {o : HO} (h : H p = none) : SB d l H (upd H p o) := fun a u e _ _ => by
  rw [upd_ne (ne_of_none e h)]
  exact e
theorem SB.d {d l : Addr} {H : Hp} {o : HO} : SB d l H (upd H d o) := fun a u e n _ => by
  rw [upd_ne n]
  exact e
theorem SB.l {d l : Addr} {H : Hp} {o : HO} : SB d l H (upd H l o) := fun a u e _ n => by
  rw [upd_ne n]
  exact e
/-- the deal: at d the pair of the great cells left, at l, and the blend -/
structure DealIs (H : Hp) (d l : Addr) (bs : List Int) (b : Int) : Prop where
  hd : H d = some (.lst [.ref l, .int b])
  hl : H l = some (.lst (bs.map V.int))
  pos : ∀ x ∈ bs, 0 ≤ x
  len : bs.length ≤ 48
  b0 : 0 ≤ b
  b1 : b < 2147483647
def DealAt (H : Hp) (d l : Addr) : Prop := ∃ bs b, DealIs H d l bs b
theorem DealIs.ne {H : Hp} {d l : Addr} {bs : List Int} {b : Int} (x : DealIs H d l bs b) : d ≠ l := fun e => by
  have h1 := x.hd
  have h2 := x.hl
  rw [e, h2] at h1
  have h3 := Option.some.inj h1
  injection h3 with h4
  cases bs with
  | nil => cases h4
  | cons y ys =>
    injection h4 with h5
    cases h5
theorem DealIs.new {H : Hp} {d l p : Addr} {o : HO} {bs : List Int} {b : Int} (x : DealIs H d l bs b) (h : H p = none) : DealIs (upd H p o) d l bs b :=
  ⟨by rw [upd_ne (ne_of_none x.hd h)]; exact x.hd, by rw [upd_ne (ne_of_none x.hl h)]; exact x.hl, x.pos, x.len, x.b0, x.b1⟩
theorem DealAt.new {H : Hp} {d l p : Addr} {o : HO} (x : DealAt H d l) (h : H p = none) : DealAt (upd H p o) d l := by
  obtain ⟨bs, b, y⟩ := x
  exact ⟨bs, b, y.new h⟩

/-! ### data: ints in a list -/
theorem dpAll_ints {K : PySem.W.Frag} {H : Hp} : ∀ bs : List Int, DpAll K H (bs.map V.int) (bs.map PyData.int)
  | [] => .nil
  | _ :: bs => .cons (.int _) (dpAll_ints bs)
theorem canLay_ints : ∀ bs : List Int, PyData.canLayAll0 (bs.map PyData.int) = true
  | [] => rfl
  | _ :: bs => by
    show (true && PyData.canLayAll0 (bs.map PyData.int)) = true
    rw [canLay_ints bs] <;> rfl
theorem depth_ints : ∀ bs : List Int, PyData.depthAll (bs.map PyData.int) ≤ 1
  | [] => by decide
  | z :: bs => by
    have h := depth_ints bs
    show max (PyData.depth (.int z)) (PyData.depthAll (bs.map PyData.int)) ≤ 1
    have e : PyData.depth (.int z) = 0 := rfl
    omega
theorem shaped_ints (bs : List Int) : SeqAt.shaped (.list (bs.map PyData.int)) = true := by
  have h1 : PyData.canLay0 (.list (bs.map PyData.int)) = true := canLay_ints bs
  have h2 : PyData.depth (.list (bs.map PyData.int)) = PyData.depthAll (bs.map PyData.int) + 1 := rfl
  have h3 := depth_ints bs
  unfold SeqAt.shaped
  rw [h1, Bool.true_and]
  exact decide_eq_true (by omega)
theorem eqv_nil (ds : List PyData) : PyData.eqv (.list ds) (.list []) = ds.isEmpty := by
  cases ds <;> rfl

/-! ### the facts of the top that the defs lean on -/
/-- a def of the text, at f -/
structure Df (K : PySem.W.Frag) (mg : Str → Option Value) (x : Str) (st : Stmt) (f : Addr) (fd : FuncData) (ps : List Str) : Prop where
  F : Fun K x x st f fd
  g : mg x = some (.ref f)
  b : Binds K fd ps []
structure Txt (mg : Str → Option Value) : Prop where
  len : mg "len" = none
  abs : mg "abs" = none
  int : mg "int" = none
  max : mg "max" = none
  min : mg "min" = none
  range : mg "range" = none
  list : mg "list" = none
  tuple : mg "tuple" = none
  enumerate : mg "enumerate" = none
  zip : mg "zip" = none
  isinstance : mg "isinstance" = none
  all : mg "all" = none
  bool : mg "bool" = none
  repr : mg "repr" = none
end Lk

set_option Elab.async false
set_option maxRecDepth 100000
set_option maxHeartbeats 1000000
namespace Lk
open PySem L2
abbrev s_law_any : Stmt := top 33
abbrev N_law_any : List Str := ["deal", "bound", "rest"]
abbrev P_law_any : List Str := ["deal", "bound"]
theorem sc_law_any : FnScope N_law_any P_law_any (defScope s_law_any) := ⟨rfl, rfl, rfl, by decide +kernel, rfl, by decide +kernel, by decide +kernel⟩
/-- a number below n is drawn, the deal goes on -/
def spAny : Sp := fun vs H Q _ => ∃ (d l : Addr) (n : Int), vs = [.ref d, .int n] ∧ 0 < n ∧ n < 1073741824 ∧ DealAt H d l ∧
  ∀ (H' : Hp) (r : Int), DealAt H' d l → SB d l H H' → 0 ≤ r → r < n → Q (.int r) H'
section
variable {P : Program} {w : World} {K : PySem.W.Frag} {mg : Str → Option Value} {base : Heap}
theorem last_get {bs : List Int} (h : bs ≠ []) : (bs.map V.int)[(bs.map V.int).length - 1]? = some (V.int (bs.getLast h)) := by
  rw [List.length_map, List.getElem?_map]
  have e : bs[bs.length - 1]? = some (bs.getLast h) := by
    rw [List.getLast_eq_getElem]
    exact List.getElem?_eq_getElem _
  rw [e] <;> rfl
theorem atI_last {bs : List Int} (h : bs ≠ []) : atI (bs.map V.int) (-1) = some (V.int (bs.getLast h)) := by
  have hl : 0 < bs.length := List.length_pos_iff.mpr h
  have e : ixN (bs.map V.int).length (-1) = some ((bs.map V.int).length - 1) := by
    unfold ixN
    rw [if_neg (by decide), if_pos (by rw [List.length_map]; omega)]
    have q : ((-1 : Int) + ((bs.map V.int).length : Int)).toNat = (bs.map V.int).length - 1 := by
      rw [List.length_map]
      omega
    rw [q]
  unfold atI
  rw [e]
  exact last_get h
theorem ok_any {f : Addr} {fd : FuncData} (A0 : Df K mg "_law_any" s_law_any f fd P_law_any) (T : Txt mg) : FnOk P w K mg base CX0 1 f fd P_law_any spAny := by
  refine A0.F.ok sc_law_any (fun vs H Q E h => ?_) (fun cdv A outer s H vs Q E hr h => ?_)
  · obtain ⟨d, l, n, rfl, _⟩ := h
    rfl
  · obtain ⟨d, l, n, rfl, n0, n1, D, k⟩ := h
    have hu : A.units + 3 + 64 < cLine := by have := hr.un; simp only [Around.deeper] at this; omega
    refine ⟨_, (pss_cons (ps_while PassesOwn.never (PW.pt (pw_and (pt_cmpR (op_neD hu) (pe_ix ix_list (pv 0) pe_int (fun _ _ => rfl)) (pe_lst pa_nil) (nomark _)) (pw_and1 (pt_cmpR op_eq (pe_ix ix_list (pe_ix ix_list (pv 0) pe_int (fun _ _ => rfl)) (pe_un un_neg pe_int) (fun _ _ => rfl)) pe_int (nomark _)))))
      (pss_one (ps_expr (pe_bm0 PySem.F.plainAttrs_list PySem.F.slot_list_pop PySem.F.type_list_pop mt_pop (pe_ix ix_list (pv 0) pe_int (fun _ _ => rfl))))))
    (pss_cons (ps_if (pt_cmpR (op_neD hu) (pe_ix ix_list (pv 0) pe_int (fun _ _ => rfl)) (pe_lst pa_nil) (nomark _)) (pss_cons (ps_set (i := 2) sc_law_any.nd rfl (Or.inl rfl) (pe_callTy call_int1 (by rfl) T.int (by decide +kernel) (pa_cons (pe_bm0 PySem.F.plainAttrs_list PySem.F.slot_list_pop PySem.F.type_list_pop mt_pop (pe_ix ix_list (pv 0) pe_int (fun _ _ => rfl))) pa_nil)))
      (pss_cons (ps_expr (pe_bm PySem.F.plainAttrs_list PySem.F.slot_list_append PySem.F.type_list_append mt_append (pe_ix ix_list (pv 0) pe_int (fun _ _ => rfl)) (pa_cons (pe_op op_fdivW (pv 2) (pv 1)) pa_nil)))
      (pss_one (ps_ret (pe_op op_mod (pv 2) (pv 1)))))) pss_nil)
    (pss_cons (ps_asg (pe_op op_mod (pe_callTy call_int1 (by rfl) T.int (by decide +kernel) (pa_cons (pe_op op_add (pe_op op_mul (pe_ix ix_list (pv 0) pe_int (fun _ _ => rfl)) pe_int) pe_int) pa_nil)) pe_int) (pg_sub (pv 0) pe_int set_list))
    (pss_one (ps_ret (pe_op op_mod (pe_callTy call_int1 (by rfl) T.int (by decide +kernel) (pa_cons (pe_op op_fdiv (pe_ix ix_list (pv 0) pe_int (fun _ _ => rfl)) pe_int) pa_nil)) (pv 1))))))), ?_⟩
    obtain ⟨bs0, b0, D0⟩ := D
    refine ⟨fun m σ H1 => σ = [some (.ref d), some (.int n), none] ∧ SB d l H H1 ∧ ∃ bs b, DealIs H1 d l bs b ∧ m = bs.length, ⟨_, rfl, SB.refl _ _ _, bs0, b0, D0, rfl⟩, ?_⟩
    rintro m σ H1 ⟨rfl, S1, bs, b, D1, rfl⟩
    refine ⟨_, rfl, d, _, 0, _, rfl, rfl, SqL.of D1.hd, rfl, Nat.zero_le _, fun p hp => ⟨_, _, Dp.lst (SqL.of (D1.new hp).hl) (dpAll_ints _), Dp.lst (SqL.of upd_same) .nil, shaped_ints _, by decide +kernel, _, rfl, ?_⟩⟩
    have D2 := D1.new (o := HO.lst []) hp
    have S2 : SB d l H _ := S1.trans (SB.new (o := HO.lst []) hp)
    rw [eqv_nil]
    -- behind the loop, with a deal that has great cells left or none
    have after : ∀ (H2 : Hp) (bs : List Int) (b : Int), DealIs H2 d l bs b → SB d l H H2 → (bs = [] ∨ ∃ h : bs ≠ [], bs.getLast h ≠ 0) →
        (tSeq (tIfS (tTest (tOp (rNeD K) (tOp (rIxL K) (tVar 0) (tC (.int 0))) (tLst tNil))) (tSeq (tAsg (tCB (fun xs H Q => (∃ i, xs = [.int i] ∧ Q (.int i) H) ∨ ∃ k, xs = [.bl k] ∧ Q (.int (if k then 1 else 0)) H) (tCons (tBM0 K "list" rPop (tOp (rIxL K) (tVar 0) (tC (.int 0)))) tNil)) (gName 2))
          (tSeq (tDrop (tBM K "list" rAppend (tOp (rIxL K) (tVar 0) (tC (.int 0))) (tCons (tOp (rI CDivW fun i j => .int (i / j)) (tVar 2) (tVar 1)) tNil))) (tRet (tOp (rI (fun _ j => 0 < j) fun i j => .int (i % j)) (tVar 2) (tVar 1))))) tNext)
          (tSeq (tAsg (tOp (rI (fun _ j => 0 < j) fun i j => .int (i % j)) (tCB (fun xs H Q => (∃ i, xs = [.int i] ∧ Q (.int i) H) ∨ ∃ k, xs = [.bl k] ∧ Q (.int (if k then 1 else 0)) H) (tCons (tOp (rI0 fun i j => .int (i + j)) (tOp (rI CMul fun i j => .int (i * j)) (tOp (rIxL K) (tVar 0) (tC (.int 1))) (tC (.int 40693))) (tC (.int 71))) tNil)) (tC (.int 2147483647))) (gSub (tVar 0) (tC (.int 1)) rSetL))
            (tRet (tOp (rI (fun _ j => 0 < j) fun i j => .int (i % j)) (tCB (fun xs H Q => (∃ i, xs = [.int i] ∧ Q (.int i) H) ∨ ∃ k, xs = [.bl k] ∧ Q (.int (if k then 1 else 0)) H) (tCons (tOp (rI CDiv fun i j => .int (i / j)) (tOp (rIxL K) (tVar 0) (tC (.int 1))) (tC (.int 64))) tNil)) (tVar 1)))))
          { nx := fun _ H' => Q .non H', rt := Q } [some (.ref d), some (.int n), none] H2 := by
      intro H2 bs b D1 S1 hb
      refine ⟨_, rfl, d, _, 0, _, rfl, rfl, SqL.of D1.hd, rfl, Nat.zero_le _, fun p hp => ⟨_, _, Dp.lst (SqL.of (D1.new hp).hl) (dpAll_ints _), Dp.lst (SqL.of upd_same) .nil, shaped_ints _, by decide +kernel, _, rfl, ?_⟩⟩
      have D2 := D1.new (o := HO.lst []) hp
      have S2 : SB d l H _ := S1.trans (SB.new (o := HO.lst []) hp)
      rw [eqv_nil]
      cases bs with
      | nil =>
        refine iteF ?_
        have m0 : (0 : Int) ≤ (b * 40693 + 71) % 2147483647 := Int.emod_nonneg _ (by decide)
        have m1 : (b * 40693 + 71) % 2147483647 < 2147483647 := Int.emod_lt_of_pos _ (by decide)
        refine ⟨_, rfl, d, _, 1, _, rfl, rfl, SqL.of D2.hd, rfl, _, _, rfl, rfl, .inr ⟨by decide, by decide⟩, _, _, rfl, rfl, .inl ⟨_, rfl, _, _, rfl, rfl, (by show (0 : Int) < 2147483647; decide), ?_⟩⟩
        refine ⟨_, rfl, d, _, 1, 1, rfl, rfl, D2.hd, rfl, ?_⟩
        refine ⟨_, rfl, d, _, 1, _, rfl, rfl, SqL.of upd_same, rfl, _, _, rfl, rfl, ⟨by decide, by decide⟩, .inl ⟨_, rfl, _, rfl, _, _, rfl, rfl, n0, ?_⟩⟩
        refine k _ _ ⟨[], _, ⟨upd_same, ?_, D2.pos, D2.len, m0, m1⟩⟩ (S2.trans SB.d) (Int.emod_nonneg _ (by omega)) (Int.emod_lt_of_pos _ n0)
        rw [upd_ne D2.ne.symm]
        exact D2.hl
      | cons x xs =>
        refine iteT ?_
        have h0 : (0 : Int) ≤ (x :: xs).getLast (List.cons_ne_nil x xs) := D2.pos _ (List.getLast_mem _)
        refine ⟨_, rfl, d, _, 0, _, rfl, rfl, SqL.of D2.hd, rfl, .inl ⟨rfl, _, SqL.of D2.hl⟩, l, _, _, rfl, rfl, D2.hl, last_get (List.cons_ne_nil x xs), .inl ⟨_, rfl, ?_⟩⟩
        have hd3 : upd (upd H2 p (HO.lst [])) l (HO.lst ((x :: xs).map V.int).dropLast) d = some (.lst [.ref l, .int b]) := by
          rw [upd_ne D2.ne]
          exact D2.hd
        refine ⟨_, rfl, d, _, 0, _, rfl, rfl, SqL.of hd3, rfl, .inl ⟨rfl, _, SqL.of upd_same⟩, _, rfl, _, rfl, _, _, rfl, rfl, wide_div n0 (b := 30) (by omega) (by decide) (by decide), l, _, _, rfl, rfl, upd_same, ?_, ?_⟩
        · have := D2.len
          rw [List.length_dropLast, List.length_map]
          exact Nat.lt_of_le_of_lt (by omega : _ ≤ 48) (by decide)
        · refine ⟨_, rfl, _, rfl, _, _, rfl, rfl, n0, ?_⟩
          refine k _ _ ⟨(x :: xs).dropLast ++ [(x :: xs).getLast (List.cons_ne_nil x xs) / n], b, ⟨?_, ?_, ?_, ?_, D2.b0, D2.b1⟩⟩ ((S2.trans SB.l).trans SB.l) (Int.emod_nonneg _ (by omega)) (Int.emod_lt_of_pos _ n0)
          · rw [upd_ne D2.ne]
            exact hd3
          · rw [upd_same, List.map_append, List.map_dropLast]
            rfl
          · intro y hy
            rcases List.mem_append.mp hy with h | h
            · exact D2.pos y (List.dropLast_subset _ h)
            · rw [List.mem_singleton.mp h]
              exact Int.ediv_nonneg h0 (by omega)
          · have := D2.len
            rw [List.length_append, List.length_dropLast]
            simp only [List.length_cons, List.length_nil] at this ⊢
            omega
    cases bs with
    | nil => exact iteF (after _ [] b D2 S2 (.inl rfl))
    | cons x xs =>
      refine iteT ?_
      refine ⟨_, rfl, d, _, 0, _, rfl, rfl, SqL.of D2.hd, rfl, _, rfl, l, _, -1, _, rfl, rfl, SqL.of D2.hl, atI_last (List.cons_ne_nil x xs), rfl, _, rfl, ?_⟩
      refine ite2 (fun h => ?_) (fun h => ?_)
      · refine ⟨fun σ' H' => ∃ m', m' < (x :: xs).length ∧ (σ' = [some (.ref d), some (.int n), none] ∧ SB d l H H' ∧ ∃ bs b, DealIs H' d l bs b ∧ m' = bs.length), fun _ _ h => h, ?_⟩
        refine ⟨_, rfl, d, _, 0, _, rfl, rfl, SqL.of D2.hd, rfl, .inl ⟨rfl, _, SqL.of D2.hl⟩, l, _, _, rfl, rfl, D2.hl, last_get (List.cons_ne_nil x xs), ?_⟩
        refine ⟨(x :: xs).dropLast.length, by rw [List.length_dropLast]; simp, rfl, S2.trans SB.l, (x :: xs).dropLast, b, ⟨?_, ?_, fun y hy => D2.pos y (List.dropLast_subset _ hy), ?_, D2.b0, D2.b1⟩, rfl⟩
        · rw [upd_ne D2.ne]
          exact D2.hd
        · rw [upd_same, List.map_dropLast]
        · have := D2.len
          rw [List.length_dropLast]
          omega
      · refine after _ (x :: xs) b D2 S2 (.inr ⟨List.cons_ne_nil x xs, fun e => h ?_⟩)
        rw [e]
        rfl
end
end Lk

set_option Elab.async false
set_option maxRecDepth 100000
set_option maxHeartbeats 1000000
namespace Lk
open PySem L2
/-! ### what stands but at some places -/
def KP (S : Addr → Prop) (H H' : Hp) : Prop := ∀ a o, H a = some o → ¬ S a → H' a = some o
def dl (d l : Addr) : Addr → Prop := fun a => a = d ∨ a = l
theorem SB.kp {d l : Addr} {H H' : Hp} (x : SB d l H H') : KP (dl d l) H H' := fun a o h n => x a o h (fun e => n (.inl e)) fun e => n (.inr e)
theorem KP.sb {d l : Addr} {H H' : Hp} (x : KP (dl d l) H H') : SB d l H H' := fun a o h n m => x a o h fun e => e.elim n m
theorem KP.refl (S : Addr → Prop) (H : Hp) : KP S H H := fun _ _ h _ => h
theorem KP.trans {S : Addr → Prop} {H H1 H2 : Hp} (x : KP S H H1) (y : KP S H1 H2) : KP S H H2 := fun a o h n => y a o (x a o h n) n
theorem KP.new {S : Addr → Prop} {H : Hp} {p : Addr} {o : HO} (h : H p = none) : KP S H (upd H p o) := fun a u e _ => by
  rw [upd_ne (ne_of_none e h)]
  exact e
theorem KP.mut {S : Addr → Prop} {H H1 : Hp} {p : Addr} {o : HO} (x : KP S H H1) (h : H p = none) : KP S H (upd H1 p o) := fun a u e n => by
  rw [upd_ne (ne_of_none e h)]
  exact x a u e n
theorem KP.same {S : Addr → Prop} {H H1 : Hp} (x : Same H H1) : KP S H H1 := fun a o h _ => x a o h
theorem KP.free {S : Addr → Prop} {H H1 : Hp} {p : Addr} (x : KP S H H1) (n : ¬ S p) (h : H1 p = none) : H p = none := by
  cases e : H p with
  | none => rfl
  | some o =>
    rw [x p o e n] at h
    cases h
theorem KP.get {S : Addr → Prop} {H H1 : Hp} {p : Addr} {o : HO} (x : KP S H H1) (n : ¬ S p) (h : H p = some o) : H1 p = some o := x p o h n
theorem KP.weak {S S' : Addr → Prop} {H H1 : Hp} (x : KP S H H1) (h : ∀ a, S a → S' a) : KP S' H H1 := fun a o e n => x a o e fun q => n (h a q)
theorem kp_upd {S : Addr → Prop} {H : Hp} {p : Addr} {o : HO} (h : S p) : KP S H (upd H p o) := fun a u e n => by
  rw [upd_ne fun q => n (by rw [q]; exact h)]
  exact e
theorem DealIs.out {H H' : Hp} {d l : Addr} {bs : List Int} {b : Int} (x : DealIs H d l bs b) (h1 : H' d = H d) (h2 : H' l = H l) : DealIs H' d l bs b :=
  ⟨h1.trans x.hd, h2.trans x.hl, x.pos, x.len, x.b0, x.b1⟩
theorem DealAt.out {H H' : Hp} {d l : Addr} (x : DealAt H d l) (h1 : H' d = H d) (h2 : H' l = H l) : DealAt H' d l := by
  obtain ⟨bs, b, y⟩ := x
  exact ⟨bs, b, y.out h1 h2⟩
theorem DealAt.upd {H : Hp} {d l p : Addr} {o : HO} (x : DealAt H d l) (n : ¬ dl d l p) : DealAt (upd H p o) d l :=
  x.out (upd_ne fun e => n (.inl e.symm)) (upd_ne fun e => n (.inr e.symm))
theorem DealAt.free {H : Hp} {d l p : Addr} (x : DealAt H d l) (h : H p = none) : ¬ dl d l p := fun e => by
  obtain ⟨bs, b, y⟩ := x
  rcases e with e | e
  · rw [e, y.hd] at h
    cases h
  · rw [e, y.hl] at h
    cases h

/-! ### comprehensions whose turns may draw -/
theorem wipe1 (σ : St) (j : Nat) (x : Option V) : wipe ((wipe σ [j]).set j x) [j] = wipe σ [j] := by
  show (((σ.set j none).set j x).set j none) = σ.set j none
  rw [List.set_set, List.set_set]
section
variable {K : PySem.W.Frag} {j : Nat} {te : TE} {σ : St} {H1 : Hp} {D : Addr} {Qd : Hp → Prop}
/-- what a comprehension keeps: D holds what is made so far -/
def Lcp (S : Addr → Prop) (I : Hp → Prop) (f : Nat → V → Hp → Prop) (H1 : Hp) (D : Addr) (i : Nat) (H : Hp) : Prop :=
  I H ∧ KP S H1 H ∧ ∃ ys : List V, H D = some (.lst ys) ∧ ys.length = i ∧ ∀ k y, ys[k]? = some y → f k y H
theorem Lcp.step {S : Addr → Prop} {I : Hp → Prop} {f : Nat → V → Hp → Prop} {i : Nat} {H H4 : Hp} {y : V} (hD : H1 D = none) (hS : ¬ S D) (mI : ∀ H o, I H → I (upd H D o)) (mf : ∀ i y H H', KP (fun a => S a ∨ a = D) H H' → f i y H → f i y H')
    (hi : i < 1000000) (x : Lcp S I f H1 D i H) (h1 : I H4) (h2 : KP S H H4) (h3 : f i y H4) : ∃ acc, H4 D = some (.lst acc) ∧ acc.length < sizeLine ∧ Lcp S I f H1 D (i + 1) (upd H4 D (.lst (acc ++ [y]))) := by
  obtain ⟨_, k1, ys, e, hl, hf⟩ := x
  refine ⟨ys, h2.get hS e, by rw [hl]; exact Nat.lt_trans hi (by decide), mI _ _ h1, (k1.trans h2).mut hD, ys ++ [y], upd_same, by rw [List.length_append, hl]; rfl, fun k z hz => ?_⟩
  have m1 : KP (fun a => S a ∨ a = D) H4 (upd H4 D (.lst (ys ++ [y]))) := kp_upd (.inr rfl)
  by_cases hk : k < ys.length
  · rw [List.getElem?_append_left hk] at hz
    exact mf _ _ _ _ ((h2.weak fun a q => .inl q).trans m1) (hf k z hz)
  · rw [List.getElem?_append_right (by omega)] at hz
    have hk0 : k - ys.length = 0 := by
      cases q : k - ys.length with
      | zero => rfl
      | succ m => rw [q] at hz; simp at hz
    rw [hk0] at hz
    have ez : y = z := Option.some.inj hz
    rw [← ez, show k = i by omega]
    exact mf _ _ _ _ m1 h3
theorem Lcp.zero {S : Addr → Prop} {I : Hp → Prop} {f : Nat → V → Hp → Prop} (hD : H1 D = none) (mI : ∀ H o, I H → I (upd H D o)) (h : I H1) : Lcp S I f H1 D 0 (upd H1 D (.lst [])) :=
  ⟨mI _ _ h, KP.new hD, [], upd_same, rfl, fun k y e => by simp at e⟩
theorem lcR {lo : Int} {n : Nat} (S : Addr → Prop) (I : Hp → Prop) (f : Nat → V → Hp → Prop) (hD : H1 D = none) (hS : ¬ S D) (hn : n ≤ 1000000) (hI : I H1) (mI : ∀ H o, I H → I (upd H D o))
    (mf : ∀ i y H H', KP (fun a => S a ∨ a = D) H H' → f i y H → f i y H')
    (hs : ∀ i H acc, i < n → I H → KP S H1 H → H D = some (.lst acc) → ∀ Q : VK, (∀ y H4, I H4 → KP S H H4 → f i y H4 → Q y H4) → te ((wipe σ [j]).set j (some (.int (lo + i)))) H Q)
    (hd : ∀ ys H', ys.length = n → (∀ i y, ys[i]? = some y → f i y H') → H' D = some (.lst ys) → I H' → KP S H1 H' → Qd H') :
    ∃ W : Nat → Nat → Hp → Prop, (∃ m, W 0 m (upd H1 D (.lst []))) ∧ ∀ i m H, W i m H →
      ((Itr lo n).stop i H ∧ Qd H) ∨ ((Itr lo n).go i H ∧ ∃ Nx : Hp → Prop, (∀ H', Nx H' → ∃ m', m' < m ∧ W (i + 1) m' H') ∧ ∀ x H', (Itr lo n).yld i H x H' → gName j x (wipe σ [j]) H' fun σ2 H2 => wipe σ2 [j] = wipe σ [j] ∧ tYes σ2 H2 fun b H3 =>
        if b = true then te σ2 H3 fun y H4 => ∃ acc, H4 D = some (.lst acc) ∧ acc.length < sizeLine ∧ Nx (upd H4 D (.lst (acc ++ [y]))) else Nx H3) := by
  refine lc_range (Lcp S I f H1 D) (Lcp.zero hD mI hI) (fun i H hi x => ?_) (fun H x => ?_)
  · refine ⟨wipe1 _ _ _, iteT (B := Lcp S I f H1 D (i + 1) H) ?_⟩
    obtain ⟨acc, e⟩ : ∃ acc, H D = some (.lst acc) := by
      obtain ⟨_, _, ys, e, _⟩ := x
      exact ⟨ys, e⟩
    exact hs i H acc hi x.1 x.2.1 e _ fun y H4 h1 h2 h3 => x.step hD hS mI mf (by omega) h1 h2 h3
  · obtain ⟨h1, h2, ys, e, hl, hf⟩ := x
    exact hd ys H hl hf e h1 h2
theorem lcL {a : Addr} {xs : List V} (S : Addr → Prop) (I : Hp → Prop) (f : Nat → V → Hp → Prop) (hD : H1 D = none) (hS : ¬ S D) (hn : xs.length ≤ 1000000) (hI : I H1) (mI : ∀ H o, I H → I (upd H D o))
    (mf : ∀ i y H H', KP (fun a => S a ∨ a = D) H H' → f i y H → f i y H') (ha : ∀ H, KP S H1 H → SqL K H a xs)
    (hs : ∀ i x H acc, xs[i]? = some x → I H → KP S H1 H → H D = some (.lst acc) → ∀ Q : VK, (∀ y H4, I H4 → KP S H H4 → f i y H4 → Q y H4) → te ((wipe σ [j]).set j (some x)) H Q)
    (hd : ∀ ys H', ys.length = xs.length → (∀ i y, ys[i]? = some y → f i y H') → H' D = some (.lst ys) → I H' → KP S H1 H' → Qd H') :
    ∃ W : Nat → Nat → Hp → Prop, (∃ m, W 0 m (upd H1 D (.lst []))) ∧ ∀ i m H, W i m H →
      ((Itl K a).stop i H ∧ Qd H) ∨ ((Itl K a).go i H ∧ ∃ Nx : Hp → Prop, (∀ H', Nx H' → ∃ m', m' < m ∧ W (i + 1) m' H') ∧ ∀ x H', (Itl K a).yld i H x H' → gName j x (wipe σ [j]) H' fun σ2 H2 => wipe σ2 [j] = wipe σ [j] ∧ tYes σ2 H2 fun b H3 =>
        if b = true then te σ2 H3 fun y H4 => ∃ acc, H4 D = some (.lst acc) ∧ acc.length < sizeLine ∧ Nx (upd H4 D (.lst (acc ++ [y]))) else Nx H3) := by
  refine lc_list (xs := xs) (Lcp S I f H1 D) (Lcp.zero hD mI hI) (fun i H _ x => ha H x.2.1) (fun i x0 H hi x => ?_) (fun H x => ?_)
  · have hi' : i < xs.length := (List.getElem?_eq_some_iff.mp hi).1
    refine ⟨wipe1 _ _ _, iteT (B := Lcp S I f H1 D (i + 1) H) ?_⟩
    obtain ⟨acc, e⟩ : ∃ acc, H D = some (.lst acc) := by
      obtain ⟨_, _, ys, e, _⟩ := x
      exact ⟨ys, e⟩
    exact hs i x0 H acc hi x.1 x.2.1 e _ fun y H4 h1 h2 h3 => x.step hD hS mI mf (by omega) h1 h2 h3
  · obtain ⟨h1, h2, ys, e, hl, hf⟩ := x
    exact hd ys H hl hf e h1 h2
end
end Lk

set_option Elab.async false
set_option maxRecDepth 100000
set_option maxHeartbeats 1000000
namespace Lk
open PySem L2
abbrev s_law_of : Stmt := top 34
abbrev N_law_of : List Str := ["deal", "some"]
abbrev P_law_of : List Str := ["deal", "some"]
theorem sc_law_of : FnScope N_law_of P_law_of (defScope s_law_of) := ⟨rfl, rfl, rfl, by decide +kernel, rfl, by decide +kernel, by decide +kernel⟩
abbrev s_law_mixed : Stmt := top 35
abbrev N_law_mixed : List Str := ["deal", "some", "left", "found"]
abbrev P_law_mixed : List Str := ["deal", "some"]
theorem sc_law_mixed : FnScope N_law_mixed P_law_mixed (defScope s_law_mixed) := ⟨rfl, rfl, rfl, by decide +kernel, rfl, by decide +kernel, by decide +kernel⟩
/-- some item of the list -/
def spOf : Sp := fun vs H Q _ => ∃ (d l a : Addr) (xs : List V), vs = [.ref d, .ref a] ∧ H a = some (.lst xs) ∧ ¬ dl d l a ∧ 0 < xs.length ∧ xs.length ≤ 1000 ∧ DealAt H d l ∧
  ∀ (H' : Hp) (i : Nat) (v : V), DealAt H' d l → SB d l H H' → xs[i]? = some v → Q v H'
/-- the ints of a list in some order, in a new list -/
def spMixed (K : PySem.W.Frag) : Sp := fun vs H Q _ => ∃ (d l a : Addr) (ns : List Int), vs = [.ref d, .ref a] ∧ SqL K H a (ns.map V.int) ∧ ns.length ≤ 1000 ∧ DealAt H d l ∧
  ∀ (H' : Hp) (p : Addr) (ms : List Int), DealAt H' d l → SB d l H H' → H p = none → H' p = some (.lst (ms.map V.int)) → ms.Perm ns → Q (.ref p) H'
section
variable {P : Program} {w : World} {K : PySem.W.Frag} {mg : Str → Option Value} {base : Heap}
theorem atI_int {α : Type} {xs : List α} {r : Int} {v : α} (h0 : 0 ≤ r) (h : xs[r.toNat]? = some v) : atI xs r = some v := by
  obtain ⟨n, rfl⟩ := Int.eq_ofNat_of_zero_le h0
  exact atI_nat h
theorem eraseIdx_map {α β : Type} (g : α → β) : ∀ (xs : List α) (i : Nat), (xs.map g).eraseIdx i = (xs.eraseIdx i).map g
  | [], _ => rfl
  | _ :: _, 0 => rfl
  | _ :: xs, i + 1 => congrArg (_ :: ·) (eraseIdx_map g xs i)
theorem perm_erase {α : Type} : ∀ {xs : List α} {i : Nat} (h : i < xs.length), ([xs[i]] ++ xs.eraseIdx i).Perm xs
  | [], _, h => absurd h (Nat.not_lt_zero _)
  | x :: xs, 0, _ => List.Perm.refl _
  | x :: xs, i + 1, h => by
    have h' : i < xs.length := Nat.lt_of_succ_lt_succ h
    have ih := perm_erase (xs := xs) (i := i) h'
    show ([xs[i]] ++ (x :: xs.eraseIdx i)).Perm (x :: xs)
    exact (List.Perm.swap x xs[i] (xs.eraseIdx i)).trans (ih.cons x)
theorem ok_of {f fa : Addr} {fd fda : FuncData} (A0 : Df K mg "_law_of" s_law_of f fd P_law_of) (d_law_any : Df K mg "_law_any" s_law_any fa fda P_law_any) (T : Txt mg) : FnOk P w K mg base CX0 2 f fd P_law_of spOf := by
  have G_law_any : FnOk P w K mg base CX0 1 fa fda P_law_any spAny := ok_any d_law_any T
  refine A0.F.ok sc_law_of (fun vs H Q E h => ?_) (fun cdv A outer s H vs Q E hr h => ?_)
  · obtain ⟨d, l, a, xs, rfl, _⟩ := h
    rfl
  · obtain ⟨d, l, a, xs, rfl, hx, na, h0, h1, D, k⟩ := h
    refine ⟨_, (pss_one (ps_ret (pe_ix ix_list (pv 1) (pe_call G_law_any (hr.mono (by decide)) rfl d_law_any.g d_law_any.F.kp d_law_any.b .nil pass0 (pa_cons (pv 0) (pa_cons (pe_callB call_len_seq (by rfl) T.len PySem.boot_len (pa_cons (pv 1) pa_nil)) pa_nil))) (fun _ _ => rfl)))), ?_⟩
    refine ⟨_, rfl, _, rfl, _, rfl, a, xs, rfl, .inl (SqL.of hx), d, l, _, rfl, by omega, by omega, D, fun H' r D' S' r0 r1 => ?_⟩
    have hx' : H' a = some (.lst xs) := S'.kp.get na hx
    have hi : r.toNat < xs.length := by omega
    refine ⟨a, xs, r, xs[r.toNat], rfl, rfl, SqL.of hx', ?_, ?_⟩
    · exact atI_int r0 (List.getElem?_eq_getElem hi)
    · exact k H' r.toNat _ D' S' (List.getElem?_eq_getElem hi)
theorem ok_mixed {f fa : Addr} {fd fda : FuncData} (A0 : Df K mg "_law_mixed" s_law_mixed f fd P_law_mixed) (d_law_any : Df K mg "_law_any" s_law_any fa fda P_law_any) (T : Txt mg) : FnOk P w K mg base CX0 2 f fd P_law_mixed (spMixed K) := by
  have G_law_any : FnOk P w K mg base CX0 1 fa fda P_law_any spAny := ok_any d_law_any T
  refine A0.F.ok sc_law_mixed (fun vs H Q E h => ?_) (fun cdv A outer s H vs Q E hr h => ?_)
  · obtain ⟨d, l, a, xs, rfl, _⟩ := h
    rfl
  · obtain ⟨d, l, a, ns, rfl, hx, h1, D, k⟩ := h
    have hu : A.units + 3 + 64 < cLine := by have := hr.un; simp only [Around.deeper] at this; omega
    refine ⟨_, (pss_cons (ps_par (i := 2) (j := 3) rfl sc_law_mixed.nd rfl rfl (by decide) rfl rfl (pa_cons (pe_callTy call_list_of (by rfl) T.list (by decide +kernel) (pa_cons (pv 1) pa_nil)) (pa_cons (pe_lst pa_nil) pa_nil)) rfl)
    (pss_cons (ps_while PassesOwn.never (pt_cmpR (op_neD hu) (pv 2) (pe_lst pa_nil) (nomark _))
      (pss_one (ps_expr (pe_bm PySem.F.plainAttrs_list PySem.F.slot_list_append PySem.F.type_list_append mt_append (pv 3) (pa_cons (pe_bm PySem.F.plainAttrs_list PySem.F.slot_list_pop PySem.F.type_list_pop mt_popAt (pv 2) (pa_cons (pe_call G_law_any (hr.mono (by decide)) rfl d_law_any.g d_law_any.F.kp d_law_any.b .nil pass0 (pa_cons (pv 0) (pa_cons (pe_callB call_len_seq (by rfl) T.len PySem.boot_len (pa_cons (pv 2) pa_nil)) pa_nil))) pa_nil)) pa_nil)))))
    (pss_one (ps_ret (pv 3))))), ?_⟩
    refine ⟨_, rfl, a, _, rfl, .inl hx, fun q hq => ⟨Nat.zero_le _, fun r hr0 => ⟨_, _, rfl, ?_⟩⟩⟩
    have nqr : q ≠ r := fun e => by rw [← e, upd_same] at hr0; cases hr0
    have q0 : H q = none := hq
    have r0 : H r = none := by rw [upd_ne nqr.symm] at hr0; exact hr0
    refine ⟨fun m σ H1 => ∃ ls fs : List Int, σ = [some (.ref d), some (.ref a), some (.ref q), some (.ref r)] ∧ DealAt H1 d l ∧ SB d l H H1 ∧ H1 q = some (.lst (ls.map V.int)) ∧ H1 r = some (.lst (fs.map V.int)) ∧ (fs ++ ls).Perm ns ∧ m = ls.length,
      ⟨_, ns, [], rfl, ?_, ?_, ?_, ?_, List.Perm.refl _, rfl⟩, ?_⟩
    · exact (D.new hq).new hr0
    · exact ((KP.new (S := dl d l) hq).trans (KP.new hr0)).sb
    · rw [upd_ne nqr, upd_same]
    · rw [upd_same]
      rfl
    · rintro m σ H1 ⟨ls, fs, rfl, D1, S1, hq1, hr1, hp, rfl⟩
      refine ⟨_, rfl, Nat.zero_le _, fun z hz => ⟨_, _, Dp.lst (SqL.of (by rw [upd_ne (ne_of_none hq1 hz)]; exact hq1)) (dpAll_ints _), Dp.lst (SqL.of upd_same) .nil, shaped_ints _, by decide +kernel, _, rfl, ?_⟩⟩
      have D2 := D1.new (o := HO.lst []) hz
      have S2 : SB d l H _ := S1.trans (SB.new (o := HO.lst []) hz)
      have hq2 : upd H1 z (HO.lst []) q = some (.lst (ls.map V.int)) := by rw [upd_ne (ne_of_none hq1 hz)]; exact hq1
      have hr2 : upd H1 z (HO.lst []) r = some (.lst (fs.map V.int)) := by rw [upd_ne (ne_of_none hr1 hz)]; exact hr1
      rw [eqv_nil]
      have nq : ¬ dl d l q := D.free q0
      have nr : ¬ dl d l r := D.free r0
      cases ls with
      | nil =>
        refine iteF ?_
        refine ⟨_, rfl, ?_⟩
        rw [List.append_nil] at hp
        exact k _ r fs D2 S2 r0 hr2 hp
      | cons x xs =>
        refine iteT ⟨fun σ' H' => ∃ m', m' < (x :: xs).length ∧ ∃ ls fs : List Int, σ' = [some (.ref d), some (.ref a), some (.ref q), some (.ref r)] ∧ DealAt H' d l ∧ SB d l H H' ∧ H' q = some (.lst (ls.map V.int)) ∧ H' r = some (.lst (fs.map V.int)) ∧ (fs ++ ls).Perm ns ∧ m' = ls.length, fun _ _ h => h, ?_⟩
        have hlen : (x :: xs).length ≤ 1000 := by
          have := hp.length_eq
          rw [List.length_append] at this
          omega
        refine ⟨_, rfl, .inl ⟨rfl, _, SqL.of hr2⟩, _, rfl, .inl ⟨rfl, _, SqL.of hq2⟩, _, rfl, _, rfl, q, _, rfl, .inl (SqL.of hq2), d, l, _, rfl, by rw [List.length_map]; simp, by rw [List.length_map]; omega, D2, fun H3 i D3 S3 i0 i1 => ?_⟩
        rw [List.length_map] at i1
        have hi : i.toNat < (x :: xs).length := by omega
        have hq3 : H3 q = some (.lst ((x :: xs).map V.int)) := S3.kp.get nq hq2
        have hr3 : H3 r = some (.lst (fs.map V.int)) := S3.kp.get nr hr2
        refine ⟨q, _, i, i.toNat, V.int (x :: xs)[i.toNat], rfl, rfl, hq3, by omega, by omega, seqIndex_of i0 (by rw [List.length_map]; exact i1), ?_, ?_⟩
        · rw [List.getElem?_map, List.getElem?_eq_getElem hi]
          rfl
        · refine ⟨r, _, _, rfl, rfl, by rw [upd_ne nqr.symm]; exact hr3, ?_, ?_⟩
          · have := hp.length_eq
            rw [List.length_append] at this
            rw [List.length_map]
            exact Nat.lt_of_le_of_lt (by omega : _ ≤ 1000) (by decide)
          · refine ⟨((x :: xs).eraseIdx i.toNat).length, ?_, (x :: xs).eraseIdx i.toNat, fs ++ [(x :: xs)[i.toNat]], rfl, ?_, ?_, ?_, ?_, ?_, rfl⟩
            · rw [List.length_eraseIdx, if_pos hi]
              omega
            · exact (D3.upd nq).upd nr
            · exact (((S2.trans S3).kp.mut q0).mut r0).sb
            · rw [upd_ne nqr, upd_same, eraseIdx_map]
            · rw [upd_same, List.map_append]
              rfl
            · rw [List.append_assoc]
              refine (List.Perm.append_left fs ?_).trans hp
              exact perm_erase hi
end
end Lk

set_option Elab.async false
set_option maxRecDepth 100000
set_option maxHeartbeats 1000000
namespace Lk
open PySem L2
/-! ### lists of lists of ints -/
theorem collect {τ : Type} {g : τ → V} : ∀ {ys : List V} {Φ : Nat → τ → Prop}, (∀ i y, ys[i]? = some y → ∃ t, y = g t ∧ Φ i t) → ∃ ts : List τ, ys = ts.map g ∧ ∀ i t, ts[i]? = some t → Φ i t
  | [], _, _ => ⟨[], rfl, fun i t h => by simp at h⟩
  | y :: ys, Φ, h => by
    obtain ⟨t, rfl, h0⟩ := h 0 y rfl
    obtain ⟨ts, rfl, h1⟩ := collect (ys := ys) (Φ := fun i => Φ (i + 1)) fun i y e => h (i + 1) y e
    refine ⟨t :: ts, rfl, fun i u e => ?_⟩
    cases i with
    | zero =>
      have e' : t = u := Option.some.inj e
      rw [← e']
      exact h0
    | succ i => exact h1 i u e
structure GridAt (H : Hp) (p : Addr) (ts : List (Addr × List Int)) : Prop where
  top : H p = some (.lst (ts.map fun t => V.ref t.1))
  row : ∀ t ∈ ts, H t.1 = some (.lst (t.2.map V.int))
structure NewG (H : Hp) (p : Addr) (ts : List (Addr × List Int)) : Prop where
  top : H p = none
  row : ∀ t ∈ ts, H t.1 = none
theorem GridAt.kp {S : Addr → Prop} {H H' : Hp} {p : Addr} {ts : List (Addr × List Int)} (x : GridAt H p ts) (k : KP S H H') (h : ¬ S p) (hr : ∀ t ∈ ts, ¬ S t.1) : GridAt H' p ts :=
  ⟨k.get h x.top, fun t ht => k.get (hr t ht) (x.row t ht)⟩
theorem GridAt.same {H H' : Hp} {p : Addr} {ts : List (Addr × List Int)} (x : GridAt H p ts) (k : Same H H') : GridAt H' p ts := ⟨k _ _ x.top, fun t ht => k _ _ (x.row t ht)⟩
theorem KP.toSame {H H' : Hp} (x : KP (fun _ => False) H H') : Same H H' := fun a o h => x a o h id
theorem mem_of_get {α : Type} {xs : List α} {i : Nat} {x : α} (h : xs[i]? = some x) : x ∈ xs := List.mem_of_getElem? h
abbrev s_law_columns : Stmt := top 36
abbrev N_law_columns : List Str := ["columns", "column", "state"]
abbrev P_law_columns : List Str := ["columns"]
theorem sc_law_columns : FnScope N_law_columns P_law_columns (defScope s_law_columns) := ⟨rfl, rfl, rfl, by decide +kernel, rfl, by decide +kernel, by decide +kernel⟩
/-- columns turned into rows: of each row the length, and where its ints come from -/
def spColumns : Sp := fun vs H Q _ => ∃ (a : Addr) (ts : List (Addr × List Int)) (n : Nat), vs = [.ref a] ∧ GridAt H a ts ∧ 0 < ts.length ∧ ts.length ≤ 1000 ∧ n ≤ 1000 ∧ (∀ t ∈ ts, t.2.length = n) ∧
  ∀ (H' : Hp) (p : Addr) (us : List (Addr × List Int)), Same H H' → NewG H p us → GridAt H' p us → us.length = n → (∀ u ∈ us, u.2.length = ts.length ∧ ∀ z ∈ u.2, ∃ t ∈ ts, z ∈ t.2) → Q (.ref p) H'
section
variable {P : Program} {w : World} {K : PySem.W.Frag} {mg : Str → Option Value} {base : Heap}
theorem ok_columns {f : Addr} {fd : FuncData} (A0 : Df K mg "_law_columns" s_law_columns f fd P_law_columns) (T : Txt mg) : FnOk P w K mg base CX0 1 f fd P_law_columns spColumns := by
  refine A0.F.ok sc_law_columns (fun vs H Q E h => ?_) (fun cdv A outer s H vs Q E hr h => ?_)
  · obtain ⟨a, ts, n, rfl, _⟩ := h
    rfl
  · obtain ⟨a, ts, n, rfl, G, t0, t1, n1, hn, k⟩ := h
    refine ⟨_, (pss_one (ps_ret (pe_lc (own := [("state", 2)]) (g := gName 2) (tt := tYes) (te := tLc (iList K (tVar 0)) (gName 1) tYes (tOp (rIxL K) (tVar 1) (tVar 2)) [1]) rfl sc_law_columns.nd (pi_range1 rfl T.range (pa_cons (pe_callB call_len_seq (by rfl) T.len PySem.boot_len (pa_cons (pe_ix ix_list (pv 0) pe_int (fun _ _ => rfl)) pa_nil)) pa_nil)) (blkOk_by (N := N_law_columns) (sc := defScope s_law_columns) (by decide +kernel)) (fun _ _ _ _ _ => (pg_name (i := 2) sc_law_columns.nd rfl (Or.inr rfl))) (fun _ _ _ _ _ => pts_nil)
      (fun _ _ _ _ _ => (pe_lc (own := [("column", 1)]) (wi := iList K (tVar 0)) (g := gName 1) (tt := tYes) (te := tOp (rIxL K) (tVar 1) (tVar 2)) rfl sc_law_columns.nd (pi_list (pv 0)) (blkOk_by (N := N_law_columns) (sc := { kind := .function, names := [(".0", .local), ("state", .cell), ("columns", .cell)], isGenerator := false, isCoroutine := false }) (by decide +kernel)) (fun _ _ _ _ _ => (pg_name (i := 1) sc_law_columns.nd rfl (Or.inl rfl))) (fun _ _ _ _ _ => pts_nil) (fun _ _ _ _ _ => (pe_ix ix_list (pv 1) (pv 2) (fun _ _ => rfl)))))))), ?_⟩
    obtain ⟨u0, us, rfl⟩ : ∃ u0 us, ts = u0 :: us := by
      cases ts with
      | nil => simp at t0
      | cons u0 us => exact ⟨u0, us, rfl⟩
    have h00 := hn u0 List.mem_cons_self
    refine ⟨_, rfl, a, _, 0, V.ref u0.1, rfl, rfl, SqL.of G.top, atI_int (by decide) rfl, u0.1, _, rfl, .inl (SqL.of (G.row u0 List.mem_cons_self)), _, rfl, by omega, by rw [List.length_map]; omega, fun D hD => ?_⟩
    rw [List.length_map, h00]
    refine lcR (fun _ => False) (fun _ => True) (fun i y H' => ∃ t : Addr × List Int, y = V.ref t.1 ∧ H t.1 = none ∧ t.1 ≠ D ∧ H' t.1 = some (.lst (t.2.map V.int)) ∧ t.2.length = (u0 :: us).length ∧ ∀ z ∈ t.2, ∃ q ∈ (u0 :: us), z ∈ q.2)
      hD id (by simp; omega) trivial (fun _ _ _ => trivial) (fun i y H1 H2 kp ⟨t, e, h1, h2, h3, h4⟩ => ⟨t, e, h1, h2, kp.get (fun q => q.elim id h2) h3, h4⟩) (fun i H1 acc hi _ k1 hD1 Q1 kQ => ?_) (fun ys H' hl hf hD' _ kp => ?_)
    · simp at hi
      have G1 : GridAt H1 a (u0 :: us) := G.same k1.toSame
      refine ⟨_, rfl, a, rfl, ⟨_, SqL.of G1.top⟩, fun D2 hD2 => ?_⟩
      refine lcL (xs := (u0 :: us).map fun t => V.ref t.1) (fun _ => False) (fun _ => True) (fun i y _ => ∃ z : Int, y = V.int z ∧ ∃ q ∈ (u0 :: us), z ∈ q.2) hD2 id (by rw [List.length_map]; omega) trivial (fun _ _ _ => trivial) (fun _ _ _ _ _ x => x) (fun H2 kp => SqL.of (kp.get id G1.top))
        (fun j x H2 acc2 hj _ k2 _ Q2 kQ2 => ?_) (fun ys2 H3 hl2 hf2 hD3 _ kp3 => ?_)
      · rw [List.getElem?_map] at hj
        obtain ⟨t, ht, rfl⟩ : ∃ t, (u0 :: us)[j]? = some t ∧ V.ref t.1 = x := by
          cases e : (u0 :: us)[j]? with
          | none => rw [e] at hj; cases hj
          | some t => rw [e] at hj; exact ⟨t, rfl, Option.some.inj hj⟩
        have hm := mem_of_get ht
        have hlt : i < t.2.length := by rw [hn t hm]; exact hi
        refine ⟨_, rfl, _, rfl, t.1, _, _, V.int t.2[i], rfl, rfl, SqL.of (k2.get id (G1.row t hm)), ?_, kQ2 _ _ trivial (KP.refl _ _) ⟨_, rfl, t, hm, List.getElem_mem hlt⟩⟩
        refine atI_int (by omega) ?_
        have e : ((0 : Int) + (i : Int)).toNat = i := by omega
        rw [e, List.getElem?_map, List.getElem?_eq_getElem hlt]
        rfl
      · obtain ⟨zs, rfl, hz⟩ := collect (g := V.int) hf2
        refine kQ _ _ trivial kp3 ⟨(D2, zs), rfl, k1.free id hD2, fun e => ?_, hD3, by rw [List.length_map] at hl2; rw [hl2, List.length_map], fun z hz' => ?_⟩
        · have e' : D2 = D := e
          rw [e', hD1] at hD2
          cases hD2
        · obtain ⟨j, hj⟩ := List.getElem?_of_mem hz'
          exact hz j z hj
    · obtain ⟨vs, rfl, hv⟩ := collect (g := fun t : Addr × List Int => V.ref t.1) hf
      have hv' : ∀ t ∈ vs, H t.1 = none ∧ t.1 ≠ D ∧ H' t.1 = some (.lst (t.2.map V.int)) ∧ t.2.length = (u0 :: us).length ∧ ∀ z ∈ t.2, ∃ q ∈ (u0 :: us), z ∈ q.2 := fun t ht => by
        obtain ⟨j, hj⟩ := List.getElem?_of_mem ht
        exact hv j t hj
      refine k H' D vs kp.toSame ⟨hD, fun t ht => (hv' t ht).1⟩ ⟨hD', fun t ht => (hv' t ht).2.2.1⟩ ?_ fun t ht => (hv' t ht).2.2.2
      rw [List.length_map] at hl
      rw [hl]
      simp
end
end Lk

set_option Elab.async false
set_option maxRecDepth 100000
set_option maxHeartbeats 1000000
namespace Lk
open PySem L2
abbrev s_law_column : Stmt := top 37
abbrev N_law_column : List Str := ["deal", "form", "many", "to", "state", "half"]
abbrev P_law_column : List Str := ["deal", "form", "many"]
theorem sc_law_column : FnScope N_law_column P_law_column (defScope s_law_column) := ⟨rfl, rfl, rfl, by decide +kernel, rfl, by decide +kernel, by decide +kernel⟩
/-- a column: as many ints as there are states, each a state -/
def spColumn : Sp := fun vs H Q _ => ∃ (d l : Addr) (form n : Int), vs = [.ref d, .int form, .int n] ∧ 0 < n ∧ n ≤ 1000 ∧ DealAt H d l ∧
  ∀ (H' : Hp) (p : Addr) (ns : List Int), DealAt H' d l → SB d l H H' → H p = none → H' p = some (.lst (ns.map V.int)) → (ns.length : Int) = n → (∀ z ∈ ns, 0 ≤ z ∧ z < n) → Q (.ref p) H'
section
variable {j : Nat} {te : TE} {σ : St} {H1 : Hp} {D : Addr} {Qd : Hp → Prop} {d l : Addr}
/-- a list of drawn ints over a range -/
theorem lcI {n : Nat} (φ : Nat → Int → Prop) (hD : H1 D = none) (hI : DealAt H1 d l) (hn : n ≤ 1000000)
    (hs : ∀ i H, i < n → DealAt H d l → SB d l H1 H → ∀ Q : VK, (∀ z H4, DealAt H4 d l → SB d l H H4 → φ i z → Q (.int z) H4) → te ((wipe σ [j]).set j (some (.int (0 + i)))) H Q)
    (hd : ∀ (ns : List Int) H', ns.length = n → (∀ (i : Nat) z, ns[i]? = some z → φ i z) → H' D = some (.lst (ns.map V.int)) → DealAt H' d l → SB d l H1 H' → Qd H') :
    ∃ W : Nat → Nat → Hp → Prop, (∃ m, W 0 m (upd H1 D (.lst []))) ∧ ∀ i m H, W i m H →
      ((Itr 0 n).stop i H ∧ Qd H) ∨ ((Itr 0 n).go i H ∧ ∃ Nx : Hp → Prop, (∀ H', Nx H' → ∃ m', m' < m ∧ W (i + 1) m' H') ∧ ∀ x H', (Itr 0 n).yld i H x H' → gName j x (wipe σ [j]) H' fun σ2 H2 => wipe σ2 [j] = wipe σ [j] ∧ tYes σ2 H2 fun b H3 =>
        if b = true then te σ2 H3 fun y H4 => ∃ acc, H4 D = some (.lst acc) ∧ acc.length < sizeLine ∧ Nx (upd H4 D (.lst (acc ++ [y]))) else Nx H3) := by
  have nD : ¬ dl d l D := hI.free hD
  refine lcR (dl d l) (fun H => DealAt H d l) (fun i y _ => ∃ z : Int, y = V.int z ∧ φ i z) hD nD hn hI (fun H o x => x.upd nD) (fun _ _ _ _ _ x => x) (fun i H acc hi x k1 _ Q kQ => ?_) (fun ys H' hl hf hD' x k1 => ?_)
  · exact hs i H hi x k1.sb Q fun z H4 x4 k4 hz => kQ _ _ x4 k4.kp ⟨z, rfl, hz⟩
  · obtain ⟨zs, rfl, hz⟩ := collect (g := V.int) hf
    exact hd zs H' (by rw [← hl, List.length_map]) hz hD' x k1.sb
end
theorem flat_rep {α : Type} (x : α) : ∀ k : Nat, (List.replicate k [x]).flatten = List.replicate k x
  | 0 => rfl
  | k + 1 => by
    show [x] ++ (List.replicate k [x]).flatten = _
    rw [flat_rep x k] <;> rfl
theorem all_of_get {ns : List Int} {φ : Int → Prop} (h : ∀ (i : Nat) z, ns[i]? = some z → φ z) : ∀ z ∈ ns, φ z := fun z hz => by
  obtain ⟨i, hi⟩ := List.getElem?_of_mem hz
  exact h i z hi
section
variable {P : Program} {w : World} {K : PySem.W.Frag} {mg : Str → Option Value} {base : Heap}
theorem ok_column {f fa fm : Addr} {fd fda fdm : FuncData} (A0 : Df K mg "_law_column" s_law_column f fd P_law_column) (d_law_any : Df K mg "_law_any" s_law_any fa fda P_law_any) (d_law_mixed : Df K mg "_law_mixed" s_law_mixed fm fdm P_law_mixed) (T : Txt mg) : FnOk P w K mg base CX0 3 f fd P_law_column spColumn := by
  have G_law_any : FnOk P w K mg base CX0 1 fa fda P_law_any spAny := ok_any d_law_any T
  have G_law_mixed : FnOk P w K mg base CX0 2 fm fdm P_law_mixed (spMixed K) := ok_mixed d_law_mixed d_law_any T
  refine A0.F.ok sc_law_column (fun vs H Q E h => ?_) (fun cdv A outer s H vs Q E hr h => ?_)
  · obtain ⟨d, l, form, n, rfl, _⟩ := h
    rfl
  · obtain ⟨d, l, form, n, rfl, n0, n1, D, k⟩ := h
    refine ⟨_, (pss_cons (ps_set (i := 3) sc_law_column.nd rfl (Or.inr rfl) (pe_call G_law_any (hr.mono (by decide)) rfl d_law_any.g d_law_any.F.kp d_law_any.b .nil pass0 (pa_cons (pv 0) (pa_cons (pv 2) pa_nil))))
    (pss_cons (ps_if (pt_cmpR op_eq (pv 1) pe_int (nomark _)) (pss_one (ps_ret (pe_lc (own := [("state", 4)]) (g := gName 4) (tt := tYes) rfl sc_law_column.nd (pi_range1 rfl T.range (pa_cons (pv 2) pa_nil)) (blkOk_by (N := N_law_column) (sc := defScope s_law_column) (by decide +kernel)) (fun _ _ _ _ _ => (pg_name (i := 4) sc_law_column.nd rfl (Or.inl rfl))) (fun _ _ _ _ _ => pts_nil) (fun _ _ _ _ _ => (pe_op op_mod (pe_callTy call_int1 (by rfl) T.int (by decide +kernel) (pa_cons (pe_op op_add (pv 4) (pv 3)) pa_nil)) (pv 2)))))) pss_nil)
    (pss_cons (ps_if (pt_cmpR op_eq (pv 1) pe_int (nomark _)) (pss_one (ps_ret (pe_op op_rep (pe_lst (pa_cons (pv 3) pa_nil)) (pv 2)))) pss_nil)
    (pss_cons (ps_if (pt_cmpR op_eq (pv 1) pe_int (nomark _)) (pss_one (ps_ret (pe_lc (own := [("state", 4)]) (g := gName 4) (tt := tYes) rfl sc_law_column.nd (pi_range1 rfl T.range (pa_cons (pv 2) pa_nil)) (blkOk_by (N := N_law_column) (sc := defScope s_law_column) (by decide +kernel)) (fun _ _ _ _ _ => (pg_name (i := 4) sc_law_column.nd rfl (Or.inl rfl))) (fun _ _ _ _ _ => pts_nil) (fun _ _ _ _ _ => (pe_ifExp (pt_cmpR op_eq (pv 4) pe_int (nomark _)) (pv 3) (pv 4)))))) pss_nil)
    (pss_cons (ps_if (pt_cmpR op_eq (pv 1) pe_int (nomark _)) (pss_one (ps_ret (pe_lc (own := [("state", 4)]) (g := gName 4) (tt := tYes) rfl sc_law_column.nd (pi_range1 rfl T.range (pa_cons (pv 2) pa_nil)) (blkOk_by (N := N_law_column) (sc := defScope s_law_column) (by decide +kernel)) (fun _ _ _ _ _ => (pg_name (i := 4) sc_law_column.nd rfl (Or.inl rfl))) (fun _ _ _ _ _ => pts_nil) (fun _ _ _ _ _ => (pe_callB (call_max2 rfl) (by rfl) T.max (by decide +kernel) (pa_cons pe_int (pa_cons (pe_callB (call_min2 rfl) (by rfl) T.min (by decide +kernel) (pa_cons (pe_op op_sub (pv 2) pe_int) (pa_cons (pe_op op_sub (pe_op op_add (pv 4) (pv 3)) pe_int) pa_nil))) pa_nil))))))) pss_nil)
    (pss_cons (ps_if (pt_cmpR op_eq (pv 1) pe_int (nomark _)) (pss_one (ps_ret (pe_call G_law_mixed (hr.mono (by decide)) rfl d_law_mixed.g d_law_mixed.F.kp d_law_mixed.b .nil pass0 (pa_cons (pv 0) (pa_cons (pe_listRg rfl (by rfl) T.list (prg_1 (by rfl) T.range (pv 2))) pa_nil))))) pss_nil)
    (pss_cons (ps_if (pt_cmpR op_eq (pv 1) pe_int (nomark _)) (pss_one (ps_ret (pe_lc (own := [("state", 4)]) (g := gName 4) (tt := tYes) rfl sc_law_column.nd (pi_range1 rfl T.range (pa_cons (pv 2) pa_nil)) (blkOk_by (N := N_law_column) (sc := defScope s_law_column) (by decide +kernel)) (fun _ _ _ _ _ => (pg_name (i := 4) sc_law_column.nd rfl (Or.inl rfl))) (fun _ _ _ _ _ => pts_nil) (fun _ _ _ _ _ => (pe_callB (call_max2 rfl) (by rfl) T.max (by decide +kernel) (pa_cons (pv 4) (pa_cons (pv 3) pa_nil))))))) pss_nil)
    (pss_cons (ps_if (pt_cmpR op_eq (pv 1) pe_int (nomark _)) (pss_cons (ps_set (i := 5) sc_law_column.nd rfl (Or.inr rfl) (pe_callB (call_max2 rfl) (by rfl) T.max (by decide +kernel) (pa_cons pe_int (pa_cons (pe_op op_fdiv (pv 2) pe_int) pa_nil))))
      (pss_one (ps_ret (pe_lc (own := [("state", 4)]) (g := gName 4) (tt := tYes) rfl sc_law_column.nd (pi_range1 rfl T.range (pa_cons (pv 2) pa_nil)) (blkOk_by (N := N_law_column) (sc := defScope s_law_column) (by decide +kernel)) (fun _ _ _ _ _ => (pg_name (i := 4) sc_law_column.nd rfl (Or.inl rfl))) (fun _ _ _ _ _ => pts_nil) (fun _ _ _ _ _ => (pe_op op_add (pe_op op_mod (pe_callTy call_int1 (by rfl) T.int (by decide +kernel) (pa_cons (pe_op op_add (pv 4) (pv 3)) pa_nil)) (pv 5)) (pe_ifExp (PW.pt (pw_and (pt_cmpR op_ge (pv 4) (pv 5) (nomark _)) (pw_and1 (pt_cmpR op_le (pe_op op_mul pe_int (pv 5)) (pv 2) (nomark _))))) (pv 5) pe_int))))))) pss_nil)
    (pss_one (ps_ret (pe_lc (own := [("state", 4)]) (g := gName 4) (tt := tYes) rfl sc_law_column.nd (pi_range1 rfl T.range (pa_cons (pv 2) pa_nil)) (blkOk_by (N := N_law_column) (sc := defScope s_law_column) (by decide +kernel)) (fun _ _ _ _ _ => (pg_name (i := 4) sc_law_column.nd rfl (Or.inl rfl))) (fun _ _ _ _ _ => pts_nil) (fun _ _ _ _ _ => (pe_call G_law_any (hr.mono (by decide)) rfl d_law_any.g d_law_any.F.kp d_law_any.b .nil pass0 (pa_cons (pv 0) (pa_cons (pv 2) pa_nil))))))))))))))), ?_⟩
    refine ⟨_, rfl, _, rfl, d, l, n, rfl, n0, by omega, D, fun H1 to D1 S1 to0 to1 => ?_⟩
    have back : ∀ (H' : Hp) (p : Addr) (ns : List Int), H1 p = none → DealAt H' d l → SB d l H1 H' → H' p = some (.lst (ns.map V.int)) → ns.length = n.toNat → (∀ z ∈ ns, 0 ≤ z ∧ z < n) → Q (.ref p) H' := fun H' p ns h1 h2 h3 h4 h5 h6 =>
      k H' p ns h2 (S1.trans h3) (S1.kp.free (D1.free h1) h1) h4 (by omega) h6
    refine ⟨_, rfl, rfl, _, rfl, ite2 (fun _ => ?_) (fun _ => ?_)⟩
    · refine ⟨_, rfl, n, rfl, by omega, by omega, fun p hp => lcI (fun _ z => 0 ≤ z ∧ z < n) hp D1 (by omega) (fun i H hi x _ Q kQ => ?_) (fun ns H' hl hz hD x k1 => back H' p ns hp x k1 hD hl (all_of_get hz))⟩
      exact ⟨_, rfl, _, rfl, _, _, rfl, rfl, .inl ⟨_, rfl, _, rfl, _, _, rfl, rfl, n0, kQ _ _ x (SB.refl _ _ _) ⟨Int.emod_nonneg _ (by omega), Int.emod_lt_of_pos _ n0⟩⟩⟩
    refine ⟨_, rfl, rfl, _, rfl, ite2 (fun _ => ?_) (fun _ => ?_)⟩
    · refine ⟨_, rfl, by show 1 ≤ sizeLine; decide, fun q hq => ⟨_, rfl, q, n, _, rfl, rfl, upd_same, by omega, by omega, Nat.le_trans (show 1 * n.toNat ≤ 1000 by omega) (by decide), fun p hp => ?_⟩⟩
      rw [flat_rep]
      have hp1 : H1 p = none := (KP.new (S := dl d l) hq).free ((D1.new hq).free hp) hp
      refine back _ p (List.replicate n.toNat to) hp1 ((D1.new hq).new hp) ((SB.new hq).trans (SB.new hp)) (by rw [upd_same, List.map_replicate]) (by simp) fun z hz => ?_
      rw [List.eq_of_mem_replicate hz]
      exact ⟨to0, to1⟩
    refine ⟨_, rfl, rfl, _, rfl, ite2 (fun _ => ?_) (fun _ => ?_)⟩
    · refine ⟨_, rfl, n, rfl, by omega, by omega, fun p hp => lcI (fun _ z => 0 ≤ z ∧ z < n) hp D1 (by omega) (fun i H hi x _ Q kQ => ?_) (fun ns H' hl hz hD x k1 => back H' p ns hp x k1 hD hl (all_of_get hz))⟩
      refine ⟨_, rfl, rfl, _, rfl, ite2 (fun _ => ?_) (fun _ => ?_)⟩
      · exact ⟨_, rfl, kQ _ _ x (SB.refl _ _ _) ⟨to0, to1⟩⟩
      · exact ⟨_, rfl, kQ _ _ x (SB.refl _ _ _) ⟨by omega, by omega⟩⟩
    refine ⟨_, rfl, rfl, _, rfl, ite2 (fun _ => ?_) (fun _ => ?_)⟩
    · refine ⟨_, rfl, n, rfl, by omega, by omega, fun p hp => lcI (fun _ z => 0 ≤ z ∧ z < n) hp D1 (by omega) (fun i H hi x _ Q kQ => ?_) (fun ns H' hl hz hD x k1 => back H' p ns hp x k1 hD hl (all_of_get hz))⟩
      refine ⟨_, rfl, _, _, rfl, rfl, _, rfl, _, rfl, _, _, rfl, rfl, _, _, rfl, rfl, _, _, rfl, _, _, rfl, ?_⟩
      refine kQ _ _ x (SB.refl _ _ _) ⟨?_, ?_⟩
      · split <;> omega
      · split
        · split <;> omega
        · omega
    refine ⟨_, rfl, rfl, _, rfl, ite2 (fun _ => ?_) (fun _ => ?_)⟩
    · refine ⟨_, rfl, _, rfl, n, rfl, RgOk.of_le (by decide) (by omega) (by decide) (by omega), fun q hq => ?_⟩
      refine ⟨d, l, q, (List.range n.toNat).map fun i => ((i : Nat) : Int), rfl, SqL.of ?_, by simp; omega, D1.new hq, fun H' p ms x k1 h1 h2 h3 => ?_⟩
      · rw [upd_same]
        unfold rgV
        rw [List.map_map]
        simp
      · refine back H' p ms (KP.free (S := dl d l) (KP.new hq) ((D1.new hq).free h1) h1) x ((SB.new hq).trans k1) h2 ?_ fun z hz => ?_
        · rw [h3.length_eq]
          simp
        · obtain ⟨i, hi, rfl⟩ := List.mem_map.mp (h3.mem_iff.mp hz)
          have := List.mem_range.mp hi
          omega
    refine ⟨_, rfl, rfl, _, rfl, ite2 (fun _ => ?_) (fun _ => ?_)⟩
    · refine ⟨_, rfl, n, rfl, by omega, by omega, fun p hp => lcI (fun _ z => 0 ≤ z ∧ z < n) hp D1 (by omega) (fun i H hi x _ Q kQ => ?_) (fun ns H' hl hz hD x k1 => back H' p ns hp x k1 hD hl (all_of_get hz))⟩
      refine ⟨_, rfl, _, rfl, _, _, rfl, kQ _ _ x (SB.refl _ _ _) ⟨?_, ?_⟩⟩
      · split <;> omega
      · split <;> omega
    refine ⟨_, rfl, rfl, _, rfl, ite2 (fun _ => ?_) (fun _ => ?_)⟩
    · refine ⟨_, rfl, _, _, rfl, rfl, ⟨by decide, by decide⟩, _, _, rfl, ?_⟩
      refine ⟨_, rfl, n, rfl, by omega, by omega, fun p hp => lcI (fun _ z => 0 ≤ z ∧ z < n) hp D1 (by omega) (fun i H hi x _ Q kQ => ?_) (fun ns H' hl hz hD x k1 => back H' p ns hp x k1 hD hl (all_of_get hz))⟩
      obtain ⟨half, eh, h0, h1, h2⟩ : ∃ half : Int, half = (if n / 2 > 1 then n / 2 else 1) ∧ 0 < half ∧ half ≤ n ∧ True := ⟨_, rfl, by split <;> omega, by split <;> omega, trivial⟩
      have r0 := Int.emod_nonneg (0 + (i : Int) + to) (show half ≠ 0 by omega)
      have r1 := Int.emod_lt_of_pos (0 + (i : Int) + to) h0
      have hb : ∀ y : Int, (y = half ∧ 2 * half ≤ n) ∨ y = 0 → 0 ≤ (0 + (i : Int) + to) % half + y ∧ (0 + (i : Int) + to) % half + y < n := fun y hy => by
        rcases hy with ⟨e, q⟩ | e <;> omega
      refine ⟨_, rfl, _, rfl, _, _, rfl, rfl, .inl ⟨_, rfl, _, rfl, _, _, rfl, rfl, ?_, ?_⟩⟩
      · rw [← eh]
        exact h0
      · refine ⟨_, rfl, _, rfl, _, _, rfl, rfl, _, rfl, ite2 (fun h3 => ?_) (fun _ => ?_)⟩
        · refine ⟨_, rfl, _, _, rfl, rfl, .inl ⟨by decide, by decide⟩, _, rfl, _, _, rfl, rfl, _, rfl, ite2 (fun h4 => ?_) (fun _ => ?_)⟩
          · have h4' := of_decide_eq_true h4
            rw [← eh] at h4'
            refine ⟨_, rfl, _, _, rfl, rfl, kQ _ _ x (SB.refl _ _ _) ?_⟩
            rw [← eh]
            exact hb half (.inl ⟨rfl, h4'⟩)
          · refine ⟨_, _, rfl, rfl, kQ _ _ x (SB.refl _ _ _) ?_⟩
            rw [← eh]
            exact hb 0 (.inr rfl)
        · refine iteF ⟨_, _, rfl, rfl, kQ _ _ x (SB.refl _ _ _) ?_⟩
          rw [← eh]
          exact hb 0 (.inr rfl)
    · refine ⟨_, rfl, n, rfl, by omega, by omega, fun p hp => lcI (fun _ z => 0 ≤ z ∧ z < n) hp D1 (by omega) (fun i H hi x _ Q kQ => ?_) (fun ns H' hl hz hD x k1 => back H' p ns hp x k1 hD hl (all_of_get hz))⟩
      exact ⟨_, rfl, _, rfl, d, l, n, rfl, n0, by omega, x, fun H4 r x4 k4 r0 r1 => kQ _ _ x4 k4 ⟨r0, r1⟩⟩
end
end Lk

set_option Elab.async false
set_option maxRecDepth 100000
set_option maxHeartbeats 1000000
namespace Lk
open PySem L2
abbrev s_law_machine : Stmt := top 38
abbrev N_law_machine : List Str := ["deal", "most", "form", "commands", "one", "other", "s", "many", "columns", "command", "kind"]
abbrev P_law_machine : List Str := ["deal", "most"]
theorem sc_law_machine : FnScope N_law_machine P_law_machine (defScope s_law_machine) := ⟨rfl, rfl, rfl, by decide +kernel, rfl, by decide +kernel, by decide +kernel⟩
/-- as a machine's steps: rows of A states each -/
structure RowsOk (A : Nat) (ts : List (Addr × List Int)) : Prop where
  pos : 0 < ts.length
  row : ∀ t ∈ ts, t.2.length = A ∧ ∀ z ∈ t.2, 0 ≤ z ∧ z < (ts.length : Int)
/-- a drawn machine: (commands, steps) -/
def spMachine : Sp := fun vs H Q _ => ∃ (d l : Addr) (most : Int), vs = [.ref d, .int most] ∧ 0 < most ∧ most ≤ 100 ∧ DealAt H d l ∧
  ∀ (H' : Hp) (t p : Addr) (A : Nat) (ts : List (Addr × List Int)), DealAt H' d l → SB d l H H' → H t = none → H' t = some (.tup [.int A, .ref p]) → NewG H p ts → GridAt H' p ts → 0 < A → A ≤ 3 → (ts.length : Int) ≤ most → RowsOk A ts → Q (.ref t) H'
theorem GridAt.snoc {H : Hp} {c p : Addr} {ts : List (Addr × List Int)} {ns : List Int} (x : GridAt H c ts) (hp : H p = some (.lst (ns.map V.int))) (n : p ≠ c) (hr : ∀ t ∈ ts, t.1 ≠ c) :
    GridAt (upd H c (.lst ((ts.map fun t => V.ref t.1) ++ [.ref p]))) c (ts ++ [(p, ns)]) := by
  refine ⟨by rw [upd_same, List.map_append] <;> rfl, fun t ht => ?_⟩
  rcases List.mem_append.mp ht with h | h
  · rw [upd_ne (hr t h)]
    exact x.row t h
  · rw [List.mem_singleton.mp h, upd_ne n]
    exact hp
theorem GridAt.new {H : Hp} {p q : Addr} {o : HO} {ts : List (Addr × List Int)} (x : GridAt H p ts) (h : H q = none) : GridAt (upd H q o) p ts :=
  ⟨by rw [upd_ne (ne_of_none x.top h)]; exact x.top, fun t ht => by rw [upd_ne (ne_of_none (x.row t ht) h)]; exact x.row t ht⟩
theorem NewG.back {S : Addr → Prop} {H H1 : Hp} {p : Addr} {ts : List (Addr × List Int)} (x : NewG H1 p ts) (k : KP S H H1) (n : ¬ S p) (hn : ∀ t ∈ ts, ¬ S t.1) : NewG H p ts :=
  ⟨k.free n x.top, fun t ht => k.free (hn t ht) (x.row t ht)⟩
/-- new behind what has a deal: new ahead of it -/
theorem NewG.deal {H H1 : Hp} {d l p : Addr} {ts : List (Addr × List Int)} (x : NewG H1 p ts) (k : SB d l H H1) (D : DealAt H1 d l) : NewG H p ts :=
  x.back k.kp (D.free x.top) fun t ht => D.free (x.row t ht)
theorem nk {H : Hp} {a p : Addr} {o u : HO} (h : H a = some o) (hp : H p = none) : upd H p u a = some o := (upd_ne (ne_of_none h hp)).trans h
theorem ff {H : Hp} {p q : Addr} {u : HO} (hp : H p = none) (hq : upd H p u q = none) : H q = none := (KP.new (S := fun _ => False) hp).free id hq
theorem two_ways {c : Prop} [Decidable c] {A X B : Prop} (hB : B) (h : c → B → X) : if c then X else (if false = true then A else B) := by
  by_cases hc : c
  · rw [if_pos hc]
    exact h hc hB
  · rw [if_neg hc]
    exact iteF hB
section
variable {K : PySem.W.Frag} {j : Nat} {te : TE} {σ : St} {H1 : Hp} {D : Addr} {Qd : Hp → Prop} {d l : Addr}
def fG (φ : Nat → List Int → Prop) (H1 : Hp) (D : Addr) (i : Nat) (y : V) (H : Hp) : Prop := ∃ t : Addr × List Int, y = V.ref t.1 ∧ H1 t.1 = none ∧ t.1 ≠ D ∧ H t.1 = some (.lst (t.2.map V.int)) ∧ φ i t.2
theorem fG_end {φ : Nat → List Int → Prop} {ys : List V} {H' : Hp} (hD : H1 D = none) (hf : ∀ i y, ys[i]? = some y → fG φ H1 D i y H') (hD' : H' D = some (.lst ys)) :
    ∃ ts : List (Addr × List Int), ts.length = ys.length ∧ NewG H1 D ts ∧ GridAt H' D ts ∧ ∀ i t, ts[i]? = some t → φ i t.2 := by
  obtain ⟨ts, rfl, ht⟩ := collect (g := fun t : Addr × List Int => V.ref t.1) hf
  have hm : ∀ t ∈ ts, H1 t.1 = none ∧ H' t.1 = some (.lst (t.2.map V.int)) := fun t h => by
    obtain ⟨i, hi⟩ := List.getElem?_of_mem h
    exact ⟨(ht i t hi).1, (ht i t hi).2.2.1⟩
  exact ⟨ts, by rw [List.length_map], ⟨hD, fun t h => (hm t h).1⟩, ⟨hD', fun t h => (hm t h).2⟩, fun i t h => (ht i t h).2.2.2⟩
/-- rows made over a range -/
theorem lcGR {n : Nat} (φ : Nat → List Int → Prop) (hD : H1 D = none) (hI : DealAt H1 d l) (hn : n ≤ 1000000)
    (hs : ∀ i H, i < n → DealAt H d l → SB d l H1 H → ∀ Q : VK, (∀ a r H4, DealAt H4 d l → SB d l H H4 → H a = none → H4 a = some (.lst (r.map V.int)) → φ i r → Q (.ref a) H4) → te ((wipe σ [j]).set j (some (.int (0 + i)))) H Q)
    (hd : ∀ ts H', ts.length = n → (∀ (i : Nat) t, ts[i]? = some t → φ i t.2) → NewG H1 D ts → GridAt H' D ts → DealAt H' d l → SB d l H1 H' → Qd H') :
    ∃ W : Nat → Nat → Hp → Prop, (∃ m, W 0 m (upd H1 D (.lst []))) ∧ ∀ i m H, W i m H →
      ((Itr 0 n).stop i H ∧ Qd H) ∨ ((Itr 0 n).go i H ∧ ∃ Nx : Hp → Prop, (∀ H', Nx H' → ∃ m', m' < m ∧ W (i + 1) m' H') ∧ ∀ x H', (Itr 0 n).yld i H x H' → gName j x (wipe σ [j]) H' fun σ2 H2 => wipe σ2 [j] = wipe σ [j] ∧ tYes σ2 H2 fun b H3 =>
        if b = true then te σ2 H3 fun y H4 => ∃ acc, H4 D = some (.lst acc) ∧ acc.length < sizeLine ∧ Nx (upd H4 D (.lst (acc ++ [y]))) else Nx H3) := by
  have nD : ¬ dl d l D := hI.free hD
  refine lcR (dl d l) (fun H => DealAt H d l) (fG φ H1 D) hD nD hn hI (fun H o x => x.upd nD) (fun i y H H' k ⟨t, e, h1, h2, h3, h4⟩ => ⟨t, e, h1, h2, k.get (fun q => q.elim (hI.free h1) h2) h3, h4⟩) (fun i H acc hi x k1 hDa Q kQ => ?_) (fun ys H' hl hf hD' x k1 => ?_)
  · refine hs i H hi x k1.sb Q fun a r H4 x4 k4 ha ha4 hr => kQ _ _ x4 k4.kp ⟨(a, r), rfl, k1.free (x.free ha) ha, fun e => ?_, ha4, hr⟩
    have e' : a = D := e
    rw [e', hDa] at ha
    cases ha
  · obtain ⟨ts, h1, h2, h3, h4⟩ := fG_end hD hf hD'
    exact hd ts H' (h1.trans hl) h4 h2 h3 x k1.sb
/-- rows made over a list -/
theorem lcGL {a : Addr} {xs : List V} (φ : Nat → List Int → Prop) (hD : H1 D = none) (hI : DealAt H1 d l) (hn : xs.length ≤ 1000000) (ha : ∀ H, SB d l H1 H → SqL K H a xs)
    (hs : ∀ i x H, xs[i]? = some x → DealAt H d l → SB d l H1 H → ∀ Q : VK, (∀ a r H4, DealAt H4 d l → SB d l H H4 → H a = none → H4 a = some (.lst (r.map V.int)) → φ i r → Q (.ref a) H4) → te ((wipe σ [j]).set j (some x)) H Q)
    (hd : ∀ ts H', ts.length = xs.length → (∀ (i : Nat) t, ts[i]? = some t → φ i t.2) → NewG H1 D ts → GridAt H' D ts → DealAt H' d l → SB d l H1 H' → Qd H') :
    ∃ W : Nat → Nat → Hp → Prop, (∃ m, W 0 m (upd H1 D (.lst []))) ∧ ∀ i m H, W i m H →
      ((Itl K a).stop i H ∧ Qd H) ∨ ((Itl K a).go i H ∧ ∃ Nx : Hp → Prop, (∀ H', Nx H' → ∃ m', m' < m ∧ W (i + 1) m' H') ∧ ∀ x H', (Itl K a).yld i H x H' → gName j x (wipe σ [j]) H' fun σ2 H2 => wipe σ2 [j] = wipe σ [j] ∧ tYes σ2 H2 fun b H3 =>
        if b = true then te σ2 H3 fun y H4 => ∃ acc, H4 D = some (.lst acc) ∧ acc.length < sizeLine ∧ Nx (upd H4 D (.lst (acc ++ [y]))) else Nx H3) := by
  have nD : ¬ dl d l D := hI.free hD
  refine lcL (xs := xs) (dl d l) (fun H => DealAt H d l) (fG φ H1 D) hD nD hn hI (fun H o x => x.upd nD) (fun i y H H' k ⟨t, e, h1, h2, h3, h4⟩ => ⟨t, e, h1, h2, k.get (fun q => q.elim (hI.free h1) h2) h3, h4⟩) (fun H k => ha H k.sb) (fun i x0 H acc hi x k1 hDa Q kQ => ?_) (fun ys H' hl hf hD' x k1 => ?_)
  · refine hs i x0 H hi x k1.sb Q fun b r H4 x4 k4 hb hb4 hr => kQ _ _ x4 k4.kp ⟨(b, r), rfl, k1.free (x.free hb) hb, fun e => ?_, hb4, hr⟩
    have e' : b = D := e
    rw [e', hDa] at hb
    cases hb
  · obtain ⟨ts, h1, h2, h3, h4⟩ := fG_end hD hf hD'
    exact hd ts H' (h1.trans hl) h4 h2 h3 x k1.sb
end
section
variable {P : Program} {w : World} {K : PySem.W.Frag} {mg : Str → Option Value} {base : Heap}
theorem ok_machine {f fa fo fc fm fk : Addr} {fd fda fdo fdc fdm fdk : FuncData} (A0 : Df K mg "_law_machine" s_law_machine f fd P_law_machine) (d_law_any : Df K mg "_law_any" s_law_any fa fda P_law_any) (d_law_of : Df K mg "_law_of" s_law_of fo fdo P_law_of) (d_law_mixed : Df K mg "_law_mixed" s_law_mixed fm fdm P_law_mixed)
    (d_law_columns : Df K mg "_law_columns" s_law_columns fc fdc P_law_columns) (d_law_column : Df K mg "_law_column" s_law_column fk fdk P_law_column) (T : Txt mg) : FnOk P w K mg base CX0 4 f fd P_law_machine spMachine := by
  have G_law_any : FnOk P w K mg base CX0 1 fa fda P_law_any spAny := ok_any d_law_any T
  have G_law_of : FnOk P w K mg base CX0 2 fo fdo P_law_of spOf := ok_of d_law_of d_law_any T
  have G_law_columns : FnOk P w K mg base CX0 1 fc fdc P_law_columns spColumns := ok_columns d_law_columns T
  have G_law_column : FnOk P w K mg base CX0 3 fk fdk P_law_column spColumn := ok_column d_law_column d_law_any d_law_mixed T
  refine A0.F.ok sc_law_machine (fun vs H Q E h => ?_) (fun cdv A outer s H vs Q E hr h => ?_)
  · obtain ⟨d, l, most, rfl, _⟩ := h
    rfl
  · obtain ⟨d, l, most, rfl, m0, m1, D, k⟩ := h
    refine ⟨_, (pss_cons (ps_par (i := 2) (j := 3) rfl sc_law_machine.nd rfl rfl (by decide) rfl rfl (pa_cons (pe_call G_law_any (hr.mono (by decide)) rfl d_law_any.g d_law_any.F.kp d_law_any.b .nil pass0 (pa_cons (pv 0) (pa_cons pe_int pa_nil))) (pa_cons (pe_call G_law_of (hr.mono (by decide)) rfl d_law_of.g d_law_of.F.kp d_law_of.b .nil pass0 (pa_cons (pv 0) (pa_cons (pe_lst (pa_cons pe_int (pa_cons pe_int (pa_cons pe_int (pa_cons pe_int (pa_cons pe_int pa_nil)))))) pa_nil))) pa_nil)) rfl)
    (pss_cons (ps_if (PW.pt (pw_and (pt_cmpR op_eq (pv 2) pe_int (nomark _)) (pw_and1 (pt_cmpR op_gt (pv 1) pe_int (nomark _))))) (pss_one (ps_ret (pe_tup (pa_cons pe_int (pa_cons (pe_lst (pa_cons (pe_lst (pa_cons pe_int (pa_cons pe_int pa_nil))) (pa_cons (pe_lst (pa_cons pe_int (pa_cons pe_int pa_nil))) (pa_cons (pe_lst (pa_cons pe_int (pa_cons pe_int pa_nil))) (pa_cons (pe_lst (pa_cons pe_int (pa_cons pe_int pa_nil))) pa_nil))))) pa_nil))))) pss_nil)
    (pss_cons (ps_if (PW.pt (pw_and (pt_cmpR op_eq (pv 2) pe_int (nomark _)) (pw_and1 (pt_cmpR op_gt (pv 1) pe_int (nomark _))))) (pss_cons (ps_asg (pe_tup (pa_cons (pe_call G_law_any (hr.mono (by decide)) rfl d_law_any.g d_law_any.F.kp d_law_any.b .nil pass0 (pa_cons (pv 0) (pa_cons pe_int pa_nil))) (pa_cons (pe_call G_law_of (hr.mono (by decide)) rfl d_law_of.g d_law_of.F.kp d_law_of.b .nil pass0 (pa_cons (pv 0) (pa_cons (pe_lst (pa_cons pe_int (pa_cons pe_int pa_nil))) pa_nil))) pa_nil))) (pg_tup rfl (pgs_cons (pg_name (i := 4) sc_law_machine.nd rfl (Or.inr rfl)) (pgs_cons (pg_name (i := 5) sc_law_machine.nd rfl (Or.inr rfl)) pgs_nil))))
      (pss_one (ps_ret (pe_tup (pa_cons pe_int (pa_cons (pe_lc (own := [("s", 6)]) (g := gName 6) (tt := tYes) rfl sc_law_machine.nd (pi_range1 rfl T.range (pa_cons pe_int pa_nil)) (blkOk_by (N := N_law_machine) (sc := defScope s_law_machine) (by decide +kernel)) (fun _ _ _ _ _ => (pg_name (i := 6) sc_law_machine.nd rfl (Or.inl rfl))) (fun _ _ _ _ _ => pts_nil) (fun _ _ _ _ _ => (pe_lst (pa_cons (pe_op op_add (pe_op op_mul pe_int (pe_op op_fdiv (pv 6) pe_int)) (pv 4)) (pa_cons (pe_ifExp (pt_cmpR op_eq (pe_op op_mod (pv 6) pe_int) pe_int (nomark _)) (pe_op op_mod (pe_callTy call_int1 (by rfl) T.int (by decide +kernel) (pa_cons (pe_op op_add (pv 6) (pv 5)) pa_nil)) pe_int) (pe_op op_mod (pe_callTy call_int1 (by rfl) T.int (by decide +kernel) (pa_cons (pe_op op_add (pv 6) pe_int) pa_nil)) pe_int)) pa_nil))))) pa_nil)))))) pss_nil)
    (pss_cons (ps_par (i := 7) (j := 8) rfl sc_law_machine.nd rfl rfl (by decide) rfl rfl (pa_cons (pe_op op_add pe_int (pe_call G_law_any (hr.mono (by decide)) rfl d_law_any.g d_law_any.F.kp d_law_any.b .nil pass0 (pa_cons (pv 0) (pa_cons (pv 1) pa_nil)))) (pa_cons (pe_lst pa_nil) pa_nil)) rfl)
    (pss_cons (ps_for PassesOwn.never rfl (pi_range1 rfl T.range (pa_cons (pv 3) pa_nil)) (pg_name (i := 9) sc_law_machine.nd rfl (Or.inl rfl))
      (pss_cons (ps_set (i := 10) sc_law_machine.nd rfl (Or.inl rfl) (pe_ifExp (pt_cmpR op_gt (pv 2) pe_int (nomark _)) (pe_call G_law_any (hr.mono (by decide)) rfl d_law_any.g d_law_any.F.kp d_law_any.b .nil pass0 (pa_cons (pv 0) (pa_cons pe_int pa_nil))) (pv 2)))
      (pss_one (ps_expr (pe_bm PySem.F.plainAttrs_list PySem.F.slot_list_append PySem.F.type_list_append mt_append (pv 8) (pa_cons (pe_call G_law_column (hr.mono (by decide)) rfl d_law_column.g d_law_column.F.kp d_law_column.b .nil pass0 (pa_cons (pv 0) (pa_cons (pv 10) (pa_cons (pv 7) pa_nil)))) pa_nil))))))
    (pss_one (ps_ret (pe_tup (pa_cons (pv 3) (pa_cons (pe_call G_law_columns (hr.mono (by decide)) rfl d_law_columns.g d_law_columns.F.kp d_law_columns.b .nil pass0 (pa_cons (pv 8) pa_nil)) pa_nil)))))))))), ?_⟩
    refine ⟨_, rfl, d, l, _, rfl, by decide, by decide, D, fun H1 form D1 S1 f0 f1 => ?_⟩
    refine ⟨_, rfl, by show 5 ≤ sizeLine; decide, fun q hq => ⟨d, l, q, _, rfl, upd_same, D1.free hq, by show 0 < 5; decide, by show 5 ≤ 1000; decide, D1.new hq, fun H2 i cm D2 S2 hi => ?_⟩⟩
    obtain ⟨A, rfl, A0, A3⟩ : ∃ A : Nat, cm = V.int A ∧ 0 < A ∧ A ≤ 3 := by
      match i, hi with
      | 0, hi => exact ⟨1, (Option.some.inj hi).symm, by decide, by decide⟩
      | 1, hi => exact ⟨2, (Option.some.inj hi).symm, by decide, by decide⟩
      | 2, hi => exact ⟨2, (Option.some.inj hi).symm, by decide, by decide⟩
      | 3, hi => exact ⟨2, (Option.some.inj hi).symm, by decide, by decide⟩
      | 4, hi => exact ⟨3, (Option.some.inj hi).symm, by decide, by decide⟩
      | n + 5, hi => cases hi
    have S02 : SB d l H H2 := (S1.trans (SB.new hq)).trans S2
    have fin : ∀ (H' : Hp) (t p : Addr) (A : Nat) (ts : List (Addr × List Int)), DealAt H' d l → SB d l H2 H' → H2 t = none → H' t = some (.tup [.int A, .ref p]) → NewG H2 p ts → GridAt H' p ts → 0 < A → A ≤ 3 → (ts.length : Int) ≤ most → RowsOk A ts → Q (.ref t) H' :=
      fun H' t p A ts x1 x2 x3 x4 x5 x6 x7 x8 x9 x10 => k H' t p A ts x1 (S02.trans x2) (S02.kp.free (D2.free x3) x3) x4 (x5.deal S02 D2) x6 x7 x8 x9 x10
    refine ⟨_, _, rfl, ?_⟩
    refine ⟨_, rfl, rfl, _, rfl, two_ways ?_ fun _ rest => ⟨_, rfl, _, _, rfl, rfl, _, rfl, ite2 (fun h3 => ?_) fun _ => rest⟩⟩
    rotate_left
    · -- (2, [[0, 1], [2, 3], [0, 1], [2, 3]])
      have h3' : (3 : Int) < most := of_decide_eq_true h3
      refine ⟨by show 2 ≤ sizeLine; decide, fun a1 e1 => ⟨by show 2 ≤ sizeLine; decide, fun a2 e2 => ⟨by show 2 ≤ sizeLine; decide, fun a3 e3 => ⟨by show 2 ≤ sizeLine; decide, fun a4 e4 => ⟨by show 4 ≤ sizeLine; decide, fun p ep => ⟨by show 2 ≤ sizeLine; decide, fun t et => ?_⟩⟩⟩⟩⟩⟩
      have n2 := ff e1 e2
      have n3 := ff e1 (ff e2 e3)
      have n4 := ff e1 (ff e2 (ff e3 e4))
      have np := ff e1 (ff e2 (ff e3 (ff e4 ep)))
      have nt := ff e1 (ff e2 (ff e3 (ff e4 (ff ep et))))
      refine fin _ t p 2 [(a1, [0, 1]), (a2, [2, 3]), (a3, [0, 1]), (a4, [2, 3])] ((((((D2.new e1).new e2).new e3).new e4).new ep).new et) ((((((SB.new e1).trans (SB.new e2)).trans (SB.new e3)).trans (SB.new e4)).trans (SB.new ep)).trans (SB.new et)) nt upd_same ⟨np, fun u hu => ?_⟩ ⟨nk upd_same et, fun u hu => ?_⟩ (by decide) (by decide) (by show (4 : Int) ≤ most; omega) ⟨by show 0 < 4; decide, fun u hu => ?_⟩
      · simp only [List.mem_cons, List.not_mem_nil, or_false] at hu
        rcases hu with rfl | rfl | rfl | rfl
        · exact e1
        · exact n2
        · exact n3
        · exact n4
      · simp only [List.mem_cons, List.not_mem_nil, or_false] at hu
        rcases hu with rfl | rfl | rfl | rfl
        · exact nk (nk (nk (nk (nk upd_same e2) e3) e4) ep) et
        · exact nk (nk (nk (nk upd_same e3) e4) ep) et
        · exact nk (nk (nk upd_same e4) ep) et
        · exact nk (nk upd_same ep) et
      · simp only [List.mem_cons, List.not_mem_nil, or_false] at hu
        rcases hu with rfl | rfl | rfl | rfl <;> exact ⟨rfl, fun z hz => by simp only [List.mem_cons, List.not_mem_nil, or_false] at hz; rcases hz with rfl | rfl <;> exact ⟨by decide, by show _ < ((4 : Nat) : Int); decide⟩⟩
    refine ⟨_, rfl, rfl, _, rfl, two_ways ?_ fun _ rest => ⟨_, rfl, _, _, rfl, rfl, _, rfl, ite2 (fun h3 => ?_) fun _ => rest⟩⟩
    rotate_left
    · have h3' : (3 : Int) < most := of_decide_eq_true h3
      refine ⟨_, rfl, d, l, _, rfl, by decide, by decide, D2, fun H3 one D3 S3 o0 o1 => ?_⟩
      refine ⟨_, rfl, by show 2 ≤ sizeLine; decide, fun q2 hq2 => ⟨d, l, q2, _, rfl, upd_same, D3.free hq2, by show 0 < 2; decide, by show 2 ≤ 1000; decide, D3.new hq2, fun H4 i2 ov D4 S4 hi2 => ?_⟩⟩
      obtain ⟨other, rfl⟩ : ∃ other : Int, ov = V.int other := by
        match i2, hi2 with
        | 0, hi => exact ⟨1, (Option.some.inj hi).symm⟩
        | 1, hi => exact ⟨3, (Option.some.inj hi).symm⟩
        | n + 2, hi => cases hi
      refine ⟨by show 2 ≤ sizeLine; decide, fun t0 ht0 => ⟨t0, _, rfl, SqT.of upd_same, rfl, _, _, rfl, _, _, rfl, rfl, ?_⟩⟩
      have D5 := D4.new (o := HO.tup [V.int one, V.int other]) ht0
      have S25 : SB d l H2 _ := ((S3.trans (SB.new hq2)).trans S4).trans (SB.new (o := HO.tup [V.int one, V.int other]) ht0)
      refine ⟨_, rfl, by decide, by decide, fun p ep => lcGR (n := 4) (fun _ r => r.length = 2 ∧ ∀ z ∈ r, 0 ≤ z ∧ z < (4 : Int)) ep D5 (by decide) (fun i H6 hi x6 _ Q6 kQ => ?_) (fun ts H' hl hz hN hG x k1 => ?_)⟩
      · have i4 : (0 : Int) + (i : Int) < 4 := by omega
        have fin6 : ∀ z1 z2 : Int, (0 ≤ z1 ∧ z1 < 4) → (0 ≤ z2 ∧ z2 < 4) → ∀ a, H6 a = none → Q6 (.ref a) (upd H6 a (.lst [.int z1, .int z2])) := fun z1 z2 b1 b2 a ha => by
          refine kQ a [z1, z2] _ (x6.new ha) (SB.new ha) ha upd_same ⟨rfl, fun z hz => ?_⟩
          simp only [List.mem_cons, List.not_mem_nil, or_false] at hz
          rcases hz with rfl | rfl
          · exact b1
          · exact b2
        refine ⟨_, rfl, _, _, rfl, rfl, ⟨by decide, by decide⟩, _, _, rfl, rfl, .inl ⟨by decide, by decide⟩, _, rfl, _, _, rfl, rfl, ?_⟩
        refine ⟨_, rfl, _, _, rfl, rfl, (by show (0 : Int) < 2; decide), rfl, _, rfl, ite2 (fun _ => ?_) (fun _ => ?_)⟩
        · exact ⟨_, rfl, _, rfl, _, _, rfl, rfl, .inl ⟨_, rfl, _, _, rfl, rfl, (by show (0 : Int) < 4; decide), by show 2 ≤ sizeLine; decide, fin6 _ _ ⟨by omega, by omega⟩ ⟨Int.emod_nonneg _ (by decide), Int.emod_lt_of_pos _ (by decide)⟩⟩⟩
        · exact ⟨_, rfl, _, _, rfl, rfl, .inl ⟨_, rfl, _, _, rfl, rfl, (by show (0 : Int) < 4; decide), by show 2 ≤ sizeLine; decide, fin6 _ _ ⟨by omega, by omega⟩ ⟨Int.emod_nonneg _ (by decide), Int.emod_lt_of_pos _ (by decide)⟩⟩⟩
      · refine ⟨by show 2 ≤ sizeLine; decide, fun t et => ?_⟩
        have nt : ¬ dl d l t := x.free et
        have D4f := D4
        refine fin _ t p 2 ts (x.new et) ((S25.trans k1).trans (SB.new et)) ?_ upd_same ?_ (hG.new et) (by decide) (by decide) (by omega) ⟨by omega, fun u hu => ?_⟩
        · exact (S25.trans k1).kp.free nt et
        · exact hN.deal S25 D5
        · obtain ⟨i, hi⟩ := List.getElem?_of_mem hu
          have := hz i u hi
          rw [hl]
          exact this
    · -- many columns
      refine ⟨_, rfl, _, rfl, d, l, _, rfl, m0, by omega, D2, fun H3 ma D3 S3 ma0 ma1 => ?_⟩
      have S23 : SB d l H2 H3 := S3
      refine ⟨_, _, rfl, rfl, ?_⟩
      refine ⟨Nat.zero_le _, fun c hc => ⟨_, _, rfl, ?_⟩⟩
      obtain ⟨many, em, q0, q1⟩ : ∃ many : Nat, (1 + ma : Int) = (many : Int) ∧ 0 < many ∧ (many : Int) ≤ most := ⟨(1 + ma).toNat, by omega, by omega, by omega⟩
      have c0 : H2 c = none := S3.kp.free (D3.free hc) hc
      refine ⟨_, rfl, (A : Int), rfl, by omega, by omega, ?_⟩
      rw [show ((A : Int)).toNat = A by omega]
      refine for_range (fun i σ H4 => ∃ (v9 v10 : Option V) (ts : List (Addr × List Int)), σ = [some (.ref d), some (.int most), some (.int form), some (.int (A : Int)), none, none, none, some (.int (1 + ma)), some (.ref c), v9, v10] ∧ DealAt H4 d l ∧ SB d l H2 H4 ∧ GridAt H4 c ts ∧ (∀ t ∈ ts, H2 t.1 = none ∧ t.1 ≠ c) ∧ ts.length = i ∧ ∀ t ∈ ts, t.2.length = many ∧ ∀ z ∈ t.2, 0 ≤ z ∧ z < (many : Int))
        ⟨none, none, [], rfl, D3.new hc, S3.trans (SB.new hc), ⟨upd_same, fun t ht => nomatch ht⟩, (fun t ht => nomatch ht), rfl, (fun t ht => nomatch ht)⟩ ?_ ?_
      · rintro i σ H4 hi ⟨v9, v10, ts, rfl, D4, S4, G4, N4, hl4, R4⟩
        have nc : ¬ dl d l c := D2.free c0
        have nts : ∀ t ∈ ts, ¬ dl d l t.1 := fun t ht => D2.free (N4 t ht).1
        have body : ∀ (H5 : Hp) (kind : Int), DealAt H5 d l → SB d l H4 H5 → (tDrop (tBM K "list" rAppend (tVar 8) (tCons (tCall spColumn [] E0 (tCons (tVar 0) (tCons (tVar 10) (tCons (tVar 7) tNil)))) tNil)))
            { nx := fun σ H4 => ∃ (v9 v10 : Option V) (ts : List (Addr × List Int)), σ = [some (.ref d), some (.int most), some (.int form), some (.int (A : Int)), none, none, none, some (.int (1 + ma)), some (.ref c), v9, v10] ∧ DealAt H4 d l ∧ SB d l H2 H4 ∧ GridAt H4 c ts ∧ (∀ t ∈ ts, H2 t.1 = none ∧ t.1 ≠ c) ∧ ts.length = i + 1 ∧ ∀ t ∈ ts, t.2.length = many ∧ ∀ z ∈ t.2, 0 ≤ z ∧ z < (many : Int),
              rt := Q } [some (.ref d), some (.int most), some (.int form), some (.int (A : Int)), none, none, none, some (.int (1 + ma)), some (.ref c), some (.int (0 + (i : Int))), some (.int kind)] H5 := by
          intro H5 kind D5 S5
          have G5 : GridAt H5 c ts := G4.kp S5.kp nc nts
          refine ⟨_, rfl, .inl ⟨rfl, _, SqL.of G5.top⟩, _, rfl, _, rfl, _, rfl, d, l, kind, 1 + ma, rfl, by omega, by omega, D5, fun H6 p ns D6 S6 hp6 hp6' hn6 hr6 => ?_⟩
          have G6 : GridAt H6 c ts := G5.kp S6.kp nc nts
          have S26 := (S4.trans S5).trans S6
          have np : H2 p = none := (S4.trans S5).kp.free (D5.free hp6) hp6
          have npc : p ≠ c := fun e => by
            rw [e, G5.top] at hp6
            cases hp6
          refine ⟨c, _, _, rfl, rfl, G6.top, ?_, _, _, ts ++ [(p, ns)], rfl, D6.upd nc, (S26.kp.mut c0).sb, G6.snoc hp6' npc fun t ht => (N4 t ht).2, fun t ht => ?_, by rw [List.length_append, hl4]; rfl, fun t ht => ?_⟩
          · rw [List.length_map]
            exact Nat.lt_of_le_of_lt (by omega : _ ≤ 1000) (by decide)
          · rcases List.mem_append.mp ht with h | h
            · exact N4 t h
            · rw [List.mem_singleton.mp h]
              exact ⟨np, npc⟩
          · rcases List.mem_append.mp ht with h | h
            · exact R4 t h
            · rw [List.mem_singleton.mp h]
              refine ⟨by show ns.length = many; omega, fun z hz => ?_⟩
              have := hr6 z hz
              omega
        refine ⟨_, rfl, _, _, rfl, rfl, _, rfl, ite2 (fun _ => ?_) (fun _ => ?_)⟩
        · exact ⟨_, rfl, d, l, _, rfl, by decide, by decide, D4, fun H5 kind D5 S5 _ _ => body H5 kind D5 S5⟩
        · exact ⟨_, rfl, body H4 form D4 (SB.refl _ _ _)⟩
      · rintro σ H4 ⟨v9, v10, ts, rfl, D4, S4, G4, N4, hl4, R4⟩
        refine ⟨_, rfl, _, rfl, c, ts, many, rfl, G4, by omega, by omega, by omega, fun t ht => (R4 t ht).1, fun H5 p us S5 N5 G5 hl5 R5 => ⟨by show 2 ≤ sizeLine; decide, fun t ht => ?_⟩⟩
        have S45 : SB d l H4 H5 := (KP.same (S := dl d l) S5).sb
        have D5 : DealAt H5 d l := by
          obtain ⟨bs, b, y⟩ := D4
          exact ⟨bs, b, S5 _ _ y.hd, S5 _ _ y.hl, y.pos, y.len, y.b0, y.b1⟩
        refine fin _ t p A us (D5.new ht) ((S4.trans S45).trans (SB.new ht)) ((S4.trans S45).kp.free (D5.free ht) ht) upd_same (N5.deal S4 D4) (G5.new ht) A0 A3 (by omega) ⟨by omega, fun u hu => ?_⟩
        have hu5 := R5 u hu
        refine ⟨by omega, fun z hz => ?_⟩
        obtain ⟨t, ht, hz'⟩ := hu5.2 z hz
        have := (R4 t ht).2 z hz'
        omega
end
end Lk

set_option Elab.async false
set_option maxRecDepth 100000
set_option maxHeartbeats 1000000
namespace Lk
open PySem L2
abbrev s_law_draw : Stmt := top 32
abbrev N_law_draw : List Str := ["script", "salt", "cells", "cell", "blend"]
abbrev P_law_draw : List Str := ["script", "salt"]
theorem sc_law_draw : FnScope N_law_draw P_law_draw (defScope s_law_draw) := ⟨rfl, rfl, rfl, by decide +kernel, rfl, by decide +kernel, by decide +kernel⟩
/-- a deal is made of the script -/
def spDraw (K : PySem.W.Frag) : Sp := fun vs H Q _ => ∃ (a : Addr) (ns : List Int) (salt : Int), vs = [.ref a, .int salt] ∧ SqL K H a (ns.map V.int) ∧ ns.length ≤ 63 ∧ 0 ≤ salt ∧ salt ≤ 1000 ∧
  ∀ (H' : Hp) (d l : Addr), DealAt H' d l → Same H H' → H d = none → H l = none → Q (.ref d) H'
/-- a drawn machine, with up to five commands -/
def spWide : Sp := fun vs H Q _ => ∃ (d l : Addr) (most : Int), vs = [.ref d, .int most] ∧ 0 < most ∧ most ≤ 100 ∧ DealAt H d l ∧
  ∀ (H' : Hp) (t p : Addr) (A : Nat) (ts : List (Addr × List Int)), DealAt H' d l → SB d l H H' → H t = none → H' t = some (.tup [.int A, .ref p]) → NewG H p ts → GridAt H' p ts → 0 < A → A ≤ 5 → (ts.length : Int) ≤ most → RowsOk A ts → Q (.ref t) H'
theorem cut_ints (ns : List Int) (lo hi : Option Int) : ∃ ms : List Int, cutV (ns.map V.int) lo hi = ms.map V.int ∧ ms.length ≤ ns.length := by
  refine ⟨(ns.drop (HT.sIx (ns.map V.int).length 0 lo)).take (HT.sIx (ns.map V.int).length (ns.map V.int).length hi - HT.sIx (ns.map V.int).length 0 lo), ?_, ?_⟩
  · unfold cutV
    rw [← List.map_drop, ← List.map_take]
  · rw [List.length_take, List.length_drop]
    omega
theorem cut48 (ns : List Int) : ∃ ms : List Int, cutV (ns.map V.int) none (some 48) = ms.map V.int ∧ ms.length ≤ 48 := by
  refine ⟨(ns.drop (HT.sIx (ns.map V.int).length 0 none)).take (HT.sIx (ns.map V.int).length (ns.map V.int).length (some 48) - HT.sIx (ns.map V.int).length 0 none), ?_, ?_⟩
  · unfold cutV
    rw [← List.map_drop, ← List.map_take]
  · rw [List.length_take]
    have e : HT.sIx (ns.map V.int).length (ns.map V.int).length (some 48) ≤ 48 := by
      show (if (48 : Int) < 0 then ((48 : Int) + (((ns.map V.int).length : Nat) : Int)).toNat else min (48 : Int).toNat (ns.map V.int).length) ≤ 48
      rw [if_neg (by decide)]
      exact Nat.min_le_left _ _
    omega
section
variable {P : Program} {w : World} {K : PySem.W.Frag} {mg : Str → Option Value} {base : Heap}
theorem ok_draw {f : Addr} {fd : FuncData} (A0 : Df K mg "_law_draw" s_law_draw f fd P_law_draw) (T : Txt mg) : FnOk P w K mg base CX0 1 f fd P_law_draw (spDraw K) := by
  refine A0.F.ok sc_law_draw (fun vs H Q E h => ?_) (fun cdv A outer s H vs Q E hr h => ?_)
  · obtain ⟨a, ns, salt, rfl, _⟩ := h
    rfl
  · obtain ⟨a, ns, salt, rfl, hS, hl, s0, s1, k⟩ := h
    refine ⟨_, (pss_cons (ps_setLc (i := 2) (own := [("cell", 3)]) (g := gName 3) (tt := tYes) rfl sc_law_draw.nd rfl rfl (sw_true rfl rfl rfl (by decide +kernel)) (pi_list (pe_slice sl_list (pv 0) po_none (po_some pe_int))) (blkOk_by (N := N_law_draw) (sc := defScope s_law_draw) (by decide +kernel)) (fun _ _ _ _ _ => (pg_name (i := 3) sc_law_draw.nd rfl (Or.inl rfl))) (fun _ _ _ _ _ => pts_nil) (fun _ _ _ _ _ => (pe_callB call_abs (by rfl) T.abs (by decide +kernel) (pa_cons (pe_callTy call_int1 (by rfl) T.int (by decide +kernel) (pa_cons (pv 3) pa_nil)) pa_nil))))
    (pss_cons (ps_set (i := 4) sc_law_draw.nd rfl (Or.inl rfl) (pe_op op_add pe_int (pe_op op_mul pe_int (pv 1))))
    (pss_cons (ps_for PassesOwn.never rfl (pi_list (pv 2)) (pg_name (i := 3) sc_law_draw.nd rfl (Or.inl rfl))
      (pss_one (ps_set (i := 4) sc_law_draw.nd rfl (Or.inl rfl) (pe_op op_mod (pe_callTy call_int1 (by rfl) T.int (by decide +kernel) (pa_cons (pe_op op_add (pe_op op_add (pe_op op_mul (pv 4) pe_int) (pe_op op_mod (pv 3) pe_int)) pe_int) pa_nil)) pe_int))))
    (pss_one (ps_ret (pe_lst (pa_cons (pe_revL (pe_lc (own := [("cell", 3)]) (g := gName 3) rfl sc_law_draw.nd (pi_list (pv 2)) (blkOk_by (N := N_law_draw) (sc := defScope s_law_draw) (by decide +kernel)) (fun _ _ _ _ _ => (pg_name (i := 3) sc_law_draw.nd rfl (Or.inl rfl))) (fun _ _ _ _ _ => (pts_one (pt_cmpR op_ge (pv 3) (pe_op op_pow pe_int pe_int) (nomark _)))) (fun _ _ _ _ _ => (pv 3)))) (pa_cons (pv 4) pa_nil)))))))), ?_⟩
    obtain ⟨ms, em, hm⟩ := cut48 ns
    refine ⟨_, rfl, _, rfl, a, _, rfl, hS, fun p hp => ⟨p, rfl, ⟨_, SqL.of upd_same⟩, fun D hD => ?_⟩⟩
    rw [em] at hD ⊢
    have hpD : ∀ {o}, upd (upd H p (HO.lst (ms.map V.int))) D o p = some (.lst (ms.map V.int)) := nk upd_same hD
    refine lcL (xs := ms.map V.int) (fun _ => False) (fun _ => True) (fun _ y _ => ∃ z : Int, y = V.int z ∧ 0 ≤ z) hD id (by rw [List.length_map]; omega) trivial (fun _ _ _ => trivial) (fun _ _ _ _ _ x => x) (fun H2 kp => SqL.of (kp.get id upd_same)) (fun j x H2 acc hj _ k2 _ Q2 kQ => ?_) (fun ys H2 hl2 hf hD2 _ k2 => ?_)
    · obtain ⟨z, rfl⟩ : ∃ z, x = V.int z := by
        obtain ⟨z, _, e⟩ := List.mem_map.mp (mem_of_get hj)
        exact ⟨z, e.symm⟩
      exact ⟨_, rfl, .inl ⟨_, rfl, _, rfl, kQ _ _ trivial (KP.refl _ _) ⟨_, rfl, by split <;> omega⟩⟩⟩
    obtain ⟨cs, rfl, hc⟩ := collect (g := V.int) hf
    have hcs : cs.length ≤ 48 := by
      rw [List.length_map, List.length_map] at hl2
      omega
    have c0 : ∀ z ∈ cs, 0 ≤ z := all_of_get hc
    have S2 : Same H H2 := ((KP.new (S := fun _ => False) hp).trans k2).toSame
    have nD : H D = none := ff hp hD
    refine ⟨_, rfl, _, _, rfl, rfl, .inl ⟨by decide, by decide⟩, _, _, rfl, rfl, ?_⟩
    refine ⟨_, rfl, D, rfl, ⟨_, SqL.of hD2⟩, for_list (K := K) (a := D) (xs := cs.map V.int) (fun i σ H3 => H3 = H2 ∧ ∃ (b : Int) (v : Option V), σ = [some (.ref a), some (.int salt), some (.ref D), v, some (.int b)] ∧ 0 ≤ b ∧ b < 2147483647) ⟨rfl, _, none, rfl, by omega, by omega⟩ (fun i σ H3 _ x => by rw [x.1]; exact SqL.of hD2) ?_ ?_⟩
    · rintro i x σ H3 hi ⟨rfl, b, v, rfl, b0, b1⟩
      obtain ⟨z, rfl⟩ : ∃ z, x = V.int z := by
        obtain ⟨z, _, e⟩ := List.mem_map.mp (mem_of_get hi)
        exact ⟨z, e.symm⟩
      refine ⟨_, rfl, _, _, rfl, rfl, .inr ⟨by decide, by decide⟩, _, rfl, _, _, rfl, rfl, (by show (0 : Int) < 2147483549; decide), _, _, rfl, rfl, _, _, rfl, rfl, .inl ⟨_, rfl, _, _, rfl, rfl, (by show (0 : Int) < 2147483647; decide), ?_⟩⟩
      exact ⟨rfl, _, _, rfl, Int.emod_nonneg _ (by decide), Int.emod_lt_of_pos _ (by decide)⟩
    · rintro σ H3 ⟨rfl, b, v, rfl, b0, b1⟩
      refine ⟨_, rfl, D, rfl, ⟨_, SqL.of hD2⟩, fun q hq => ?_⟩
      refine lc_list (xs := cs.map V.int) (fun i H4 => Same H3 H4 ∧ ∃ gs : List Int, H4 q = some (.lst (gs.map V.int)) ∧ gs.length ≤ i ∧ ∀ z ∈ gs, 0 ≤ z) ⟨(KP.new (S := fun _ => False) hq).toSame, [], upd_same, Nat.le_refl _, fun z hz => nomatch hz⟩ (fun i H4 _ x => SqL.of (x.1 _ _ hD2)) (fun i x H4 hi x4 => ?_) (fun H4 x4 => ?_)
      · obtain ⟨z, hz, rfl⟩ := List.mem_map.mp (mem_of_get hi)
        obtain ⟨S4, gs, e4, l4, p4⟩ := x4
        have hi48 : i < 48 := by
          have := (List.getElem?_eq_some_iff.mp hi).1
          rw [List.length_map] at this
          omega
        refine ⟨wipe1 _ _ _, _, rfl, _, _, rfl, rfl, ⟨by decide, by decide, by decide⟩, _, _, rfl, rfl, _, rfl, ite2 (fun _ => ?_) (fun _ => ⟨S4, gs, e4, by omega, p4⟩)⟩
        refine ⟨_, rfl, _, e4, ?_, ?_, gs ++ [z], ?_, ?_, ?_⟩
        · rw [List.length_map]
          exact Nat.lt_of_le_of_lt (by omega : _ ≤ 48) (by decide)
        · exact ((KP.same (S := fun _ => False) S4).mut hq).toSame
        · rw [upd_same, List.map_append]
          rfl
        · rw [List.length_append]
          simp only [List.length_cons, List.length_nil]
          omega
        · intro y hy
          rcases List.mem_append.mp hy with h | h
          · exact p4 y h
          · rw [List.mem_singleton.mp h]
            exact c0 z hz
      · obtain ⟨S4, gs, e4, l4, p4⟩ := x4
        rw [List.length_map] at l4
        refine ⟨q, _, rfl, SqL.of e4, fun l hl => ⟨_, rfl, by show 2 ≤ sizeLine; decide, fun d hd => ?_⟩⟩
        rw [← List.map_reverse] at hd ⊢
        have nl : H l = none := (S2.trans S4).free hl
        refine k _ d l ⟨gs.reverse, b, ⟨upd_same, nk upd_same hd, fun y hy => p4 y (List.mem_reverse.mp hy), by rw [List.length_reverse]; omega, b0, b1⟩⟩ ?_ ((S2.trans S4).free (ff hl hd)) nl
        exact (((KP.same (S := fun _ => False) (S2.trans S4)).trans (KP.new hl)).trans (KP.new hd)).toSame
end
end Lk

set_option Elab.async false
set_option maxRecDepth 100000
set_option maxHeartbeats 1000000
namespace Lk
open PySem L2
def rLs (K : PySem.W.Frag) : List V → Hp → VK → Prop := fun xs H Q => ∃ p ys, xs = [.ref p] ∧ (SqL K H p ys ∨ SqT K H p ys) ∧ ∀ l, H l = none → Q (.ref l) (upd H l (.lst ys))
def rLn (K : PySem.W.Frag) : List V → Hp → VK → Prop := fun xs H Q => ∃ p ys, xs = [.ref p] ∧ (SqL K H p ys ∨ SqT K H p ys) ∧ Q (.int ys.length) H
theorem cases_list {α : Type} {xs : List α} {i : Nat} {x : α} (h : xs[i]? = some x) : i < xs.length := (List.getElem?_eq_some_iff.mp h).1
theorem grid_get {ts : List (Addr × List Int)} {i : Nat} {x : V} (h : (ts.map fun t => V.ref t.1)[i]? = some x) : ∃ t ∈ ts, x = V.ref t.1 := by
  obtain ⟨t, ht, e⟩ := List.mem_map.mp (mem_of_get h)
  exact ⟨t, ht, e.symm⟩
section
variable {P : Program} {w : World} {K : PySem.W.Frag} {mg : Str → Option Value} {base : Heap}
end
end Lk

set_option Elab.async false
set_option maxRecDepth 100000
set_option maxHeartbeats 1000000
namespace Lk
open PySem L2
theorem take_next {α : Type} : ∀ {xs : List α} {i : Nat} {x : α}, xs[i]? = some x → xs.take (i + 1) = xs.take i ++ [x]
  | [], _, _, h => by simp at h
  | y :: xs, 0, x, h => by
    have e : y = x := Option.some.inj h
    rw [e]
    rfl
  | y :: xs, i + 1, x, h => by
    show y :: xs.take (i + 1) = y :: (xs.take i ++ [x])
    rw [take_next (xs := xs) (i := i) h]
theorem sameT {K : PySem.W.Frag} {H H' : Hp} {a : Addr} {xs : List V} (e : Same H H') (h : SqT K H a xs) : SqT K H' a xs := by
  rcases h with (h | ⟨o, h⟩) | h
  · exact .inl (.inl (e _ _ h))
  · exact .inl (.inr ⟨o, e _ _ h⟩)
  · exact .inr h
section
variable {K : PySem.W.Frag} {j : Nat} {te : TE} {σ : St} {H1 : Hp} {D : Addr} {Qd : Hp → Prop}

theorem lcPL {a : Addr} {xs : List V} (F : V → V) (hD : H1 D = none) (hn : xs.length ≤ 1000000) (ha : SqL K H1 a xs)
    (hs : ∀ x ∈ xs, ∀ H, Same H1 H → ∀ Q : VK, (∀ H4, Same H H4 → Q (F x) H4) → te ((wipe σ [j]).set j (some x)) H Q)
    (hd : ∀ H', H' D = some (.lst (xs.map F)) → Same H1 H' → Qd H') :
    ∃ W : Nat → Nat → Hp → Prop, (∃ m, W 0 m (upd H1 D (.lst []))) ∧ ∀ i m H, W i m H →
      ((Itl K a).stop i H ∧ Qd H) ∨ ((Itl K a).go i H ∧ ∃ Nx : Hp → Prop, (∀ H', Nx H' → ∃ m', m' < m ∧ W (i + 1) m' H') ∧ ∀ x H', (Itl K a).yld i H x H' → gName j x (wipe σ [j]) H' fun σ2 H2 => wipe σ2 [j] = wipe σ [j] ∧ tYes σ2 H2 fun b H3 =>
        if b = true then te σ2 H3 fun y H4 => ∃ acc, H4 D = some (.lst acc) ∧ acc.length < sizeLine ∧ Nx (upd H4 D (.lst (acc ++ [y]))) else Nx H3) := by
  refine lc_list (xs := xs) (fun i H => Same H1 H ∧ H D = some (.lst ((xs.take i).map F))) ⟨(KP.new (S := fun _ => False) hD).toSame, upd_same⟩ (fun i H _ x => Same.seq x.1 ha) (fun i x0 H hi x => ?_) (fun H x => ?_)
  · refine ⟨wipe1 _ _ _, iteT (B := Same H1 H ∧ H D = some (.lst ((xs.take (i + 1)).map F))) ?_⟩
    refine hs x0 (mem_of_get hi) H x.1 _ fun H4 S4 => ⟨_, S4 _ _ x.2, ?_, ((KP.same (S := fun _ => False) (x.1.trans S4)).mut hD).toSame, ?_⟩
    · rw [List.length_map, List.length_take]
      exact Nat.lt_of_le_of_lt (Nat.le_trans (Nat.min_le_right _ _) hn) (by decide)
    · rw [upd_same, take_next hi, List.map_append]
      rfl
  · have e := x.2
    rw [List.take_length] at e
    exact hd H e x.1

theorem lcPT {a : Addr} {xs : List V} (F : V → V) (hD : H1 D = none) (hn : xs.length ≤ 1000000) (ha : SqT K H1 a xs)
    (hs : ∀ x ∈ xs, ∀ H, Same H1 H → ∀ Q : VK, (∀ H4, Same H H4 → Q (F x) H4) → te ((wipe σ [j]).set j (some x)) H Q)
    (hd : ∀ H', H' D = some (.lst (xs.map F)) → Same H1 H' → Qd H') :
    ∃ W : Nat → Nat → Hp → Prop, (∃ m, W 0 m (upd H1 D (.lst []))) ∧ ∀ i m H, W i m H →
      ((Itt K a).stop i H ∧ Qd H) ∨ ((Itt K a).go i H ∧ ∃ Nx : Hp → Prop, (∀ H', Nx H' → ∃ m', m' < m ∧ W (i + 1) m' H') ∧ ∀ x H', (Itt K a).yld i H x H' → gName j x (wipe σ [j]) H' fun σ2 H2 => wipe σ2 [j] = wipe σ [j] ∧ tYes σ2 H2 fun b H3 =>
        if b = true then te σ2 H3 fun y H4 => ∃ acc, H4 D = some (.lst acc) ∧ acc.length < sizeLine ∧ Nx (upd H4 D (.lst (acc ++ [y]))) else Nx H3) := by
  refine lc_tup (xs := xs) (fun i H => Same H1 H ∧ H D = some (.lst ((xs.take i).map F))) ⟨(KP.new (S := fun _ => False) hD).toSame, upd_same⟩ (fun i H _ x => sameT x.1 ha) (fun i x0 H hi x => ?_) (fun H x => ?_)
  · refine ⟨wipe1 _ _ _, iteT (B := Same H1 H ∧ H D = some (.lst ((xs.take (i + 1)).map F))) ?_⟩
    refine hs x0 (mem_of_get hi) H x.1 _ fun H4 S4 => ⟨_, S4 _ _ x.2, ?_, ((KP.same (S := fun _ => False) (x.1.trans S4)).mut hD).toSame, ?_⟩
    · rw [List.length_map, List.length_take]
      exact Nat.lt_of_le_of_lt (Nat.le_trans (Nat.min_le_right _ _) hn) (by decide)
    · rw [upd_same, take_next hi, List.map_append]
      rfl
  · have e := x.2
    rw [List.take_length] at e
    exact hd H e x.1

theorem lcPR {n : Nat} (F : Nat → V) (hD : H1 D = none) (hn : n ≤ 1000000)
    (hs : ∀ i, i < n → ∀ H, Same H1 H → ∀ Q : VK, (∀ H4, Same H H4 → Q (F i) H4) → te ((wipe σ [j]).set j (some (.int (0 + i)))) H Q)
    (hd : ∀ H', H' D = some (.lst ((List.range n).map F)) → Same H1 H' → Qd H') :
    ∃ W : Nat → Nat → Hp → Prop, (∃ m, W 0 m (upd H1 D (.lst []))) ∧ ∀ i m H, W i m H →
      ((Itr 0 n).stop i H ∧ Qd H) ∨ ((Itr 0 n).go i H ∧ ∃ Nx : Hp → Prop, (∀ H', Nx H' → ∃ m', m' < m ∧ W (i + 1) m' H') ∧ ∀ x H', (Itr 0 n).yld i H x H' → gName j x (wipe σ [j]) H' fun σ2 H2 => wipe σ2 [j] = wipe σ [j] ∧ tYes σ2 H2 fun b H3 =>
        if b = true then te σ2 H3 fun y H4 => ∃ acc, H4 D = some (.lst acc) ∧ acc.length < sizeLine ∧ Nx (upd H4 D (.lst (acc ++ [y]))) else Nx H3) := by
  refine lc_range (fun i H => Same H1 H ∧ H D = some (.lst ((List.range i).map F))) ⟨(KP.new (S := fun _ => False) hD).toSame, upd_same⟩ (fun i H hi x => ?_) (fun H x => hd H x.2 x.1)
  refine ⟨wipe1 _ _ _, iteT (B := Same H1 H ∧ H D = some (.lst ((List.range (i + 1)).map F))) ?_⟩
  refine hs i hi H x.1 _ fun H4 S4 => ⟨_, S4 _ _ x.2, ?_, ((KP.same (S := fun _ => False) (x.1.trans S4)).mut hD).toSame, ?_⟩
  · rw [List.length_map, List.length_range]
    exact Nat.lt_of_le_of_lt (Nat.le_trans (Nat.le_of_lt hi) hn) (by decide)
  · rw [upd_same, List.range_succ, List.map_append]
    rfl
end
/-! ### the law's own walks, as functions -/
def stp (rs : List (List Int)) (s c : Int) : Int := (rs.getD s.toNat []).getD c.toNat 0
def led (rs : List (List Int)) (s : Int) (ns : List Int) : Int := ns.foldl (stp rs) s
def effs (rs : List (List Int)) (ns : List Int) : List Int := (List.range rs.length).map fun (s : Nat) => led rs (s : Int) ns
def comp (f g : List Int) : List Int := f.map fun s => g.getD s.toNat 0
def powG : Nat → Nat → List Int → List Int → List Int
  | 0, _, _, found => found
  | k + 1, t, one, found => if t = 0 then found else powG k (t / 2) (comp one one) (if t % 2 = 1 then comp found one else found)
/-- a machine's rows: states are below their number, commands below A -/
structure Rs (A : Nat) (rs : List (List Int)) : Prop where
  pos : 0 < rs.length
  row : ∀ r ∈ rs, r.length = A ∧ ∀ z ∈ r, 0 ≤ z ∧ z < (rs.length : Int)
theorem RowsOk.rs {A : Nat} {ts : List (Addr × List Int)} (x : RowsOk A ts) : Rs A (ts.map (·.2)) := by
  refine ⟨by rw [List.length_map]; exact x.pos, fun r hr => ?_⟩
  obtain ⟨t, ht, rfl⟩ := List.mem_map.mp hr
  rw [List.length_map]
  exact x.row t ht
theorem getD_of {α : Type} {xs : List α} {i : Nat} {d x : α} (h : xs[i]? = some x) : xs.getD i d = x := by
  rw [List.getD_eq_getElem?_getD, h] <;> rfl
/-- an index below, as an item -/
theorem item_of {α : Type} {xs : List α} {s : Int} (h0 : 0 ≤ s) (h1 : s < (xs.length : Int)) (d : α) : xs[s.toNat]? = some (xs.getD s.toNat d) := by
  have h : s.toNat < xs.length := by omega
  rw [List.getElem?_eq_getElem h, getD_of (List.getElem?_eq_getElem h)]
theorem Rs.stp {A : Nat} {rs : List (List Int)} (x : Rs A rs) {s c : Int} (s0 : 0 ≤ s) (s1 : s < rs.length) (c0 : 0 ≤ c) (c1 : c < A) : 0 ≤ Lk.stp rs s c ∧ Lk.stp rs s c < (rs.length : Int) := by
  have hm := mem_of_get (item_of s0 s1 ([] : List Int))
  obtain ⟨h1, h2⟩ := x.row _ hm
  exact h2 _ (mem_of_get (item_of c0 (by rw [h1]; exact c1) (0 : Int)))
theorem Rs.led {A : Nat} {rs : List (List Int)} (x : Rs A rs) : ∀ {ns : List Int} {s : Int}, 0 ≤ s → s < rs.length → (∀ c ∈ ns, 0 ≤ c ∧ c < (A : Int)) → 0 ≤ Lk.led rs s ns ∧ Lk.led rs s ns < (rs.length : Int)
  | [], s, h0, h1, _ => ⟨h0, h1⟩
  | c :: ns, s, h0, h1, h => by
    obtain ⟨c0, c1⟩ := h c List.mem_cons_self
    obtain ⟨q0, q1⟩ := x.stp h0 h1 c0 c1
    exact x.led (ns := ns) q0 q1 fun z hz => h z (List.mem_cons_of_mem _ hz)
end Lk

set_option Elab.async false
set_option maxRecDepth 100000
set_option maxHeartbeats 1000000
namespace Lk
open PySem L2
abbrev s_law_row : Stmt := top 39
abbrev N_law_row : List Str := ["deal", "commands", "length", "turn"]
abbrev P_law_row : List Str := ["deal", "commands", "length"]
theorem sc_law_row : FnScope N_law_row P_law_row (defScope s_law_row) := ⟨rfl, rfl, rfl, by decide +kernel, rfl, by decide +kernel, by decide +kernel⟩
abbrev s_law_led : Stmt := top 41
abbrev N_law_led : List Str := ["steps", "state", "row", "command"]
abbrev P_law_led : List Str := ["steps", "state", "row"]
theorem sc_law_led : FnScope N_law_led P_law_led (defScope s_law_led) := ⟨rfl, rfl, rfl, by decide +kernel, rfl, by decide +kernel, by decide +kernel⟩
abbrev s_law_effect : Stmt := top 42
abbrev N_law_effect : List Str := ["steps", "row", "state"]
abbrev P_law_effect : List Str := ["steps", "row"]
theorem sc_law_effect : FnScope N_law_effect P_law_effect (defScope s_law_effect) := ⟨rfl, rfl, rfl, by decide +kernel, rfl, by decide +kernel, by decide +kernel⟩
/-- a drawn row -/
def spRow : Sp := fun vs H Q _ => ∃ (d l : Addr) (A n : Int), vs = [.ref d, .int A, .int n] ∧ 0 < A ∧ A ≤ 1000 ∧ 0 ≤ n ∧ n ≤ 1000 ∧ DealAt H d l ∧
  ∀ (H' : Hp) (p : Addr) (ns : List Int), DealAt H' d l → SB d l H H' → H p = none → H' p = some (.tup (ns.map V.int)) → (ns.length : Int) = n → (∀ z ∈ ns, 0 ≤ z ∧ z < A) → Q (.ref p) H'
def rsOf (ts : List (Addr × List Int)) : List (List Int) := ts.map (·.2)
def spLed (K : PySem.W.Frag) : Sp := fun vs H Q _ => ∃ (a p : Addr) (s : Int) (A : Nat) (ts : List (Addr × List Int)) (ns : List Int), vs = [.ref a, .int s, .ref p] ∧ GridAt H a ts ∧ RowsOk A ts ∧ 0 ≤ s ∧ s < ts.length ∧ SqT K H p (ns.map V.int) ∧ (∀ c ∈ ns, 0 ≤ c ∧ c < (A : Int)) ∧
  Q (.int (led (rsOf ts) s ns)) H
def spEffect (K : PySem.W.Frag) : Sp := fun vs H Q _ => ∃ (a p : Addr) (A : Nat) (ts : List (Addr × List Int)) (ns : List Int), vs = [.ref a, .ref p] ∧ GridAt H a ts ∧ RowsOk A ts ∧ ts.length ≤ 1000 ∧ SqT K H p (ns.map V.int) ∧ (∀ c ∈ ns, 0 ≤ c ∧ c < (A : Int)) ∧
  ∀ (H' : Hp) (q : Addr), Same H H' → H q = none → H' q = some (.tup ((effs (rsOf ts) ns).map V.int)) → Q (.ref q) H'
def rng (n : Nat) : List Int := (List.range n).map fun (i : Nat) => (i : Int)
def spPower (K : PySem.W.Frag) : Sp := fun vs H Q _ => ∃ (a : Addr) (t : Int) (fs : List Int), vs = [.ref a, .int t] ∧ SqL K H a (fs.map V.int) ∧ fs.length ≤ 1000 ∧ (∀ z ∈ fs, 0 ≤ z ∧ z < (fs.length : Int)) ∧ 0 ≤ t ∧ t < 2 ^ 63 ∧
  ∀ (H' : Hp) (q : Addr), Same H H' → H q = none → H' q = some (.tup ((powG 63 t.toNat fs (rng fs.length)).map V.int)) → Q (.ref q) H'
theorem rsOf_get {ts : List (Addr × List Int)} {i : Nat} {u : Addr × List Int} (h : ts[i]? = some u) : (rsOf ts)[i]? = some u.2 := by
  show (ts.map (·.2))[i]? = _
  rw [List.getElem?_map, h]
  rfl
section
variable {P : Program} {w : World} {K : PySem.W.Frag} {mg : Str → Option Value} {base : Heap}
theorem ok_row {f fa : Addr} {fd fda : FuncData} (A0 : Df K mg "_law_row" s_law_row f fd P_law_row) (d_law_any : Df K mg "_law_any" s_law_any fa fda P_law_any) (T : Txt mg) : FnOk P w K mg base CX0 2 f fd P_law_row spRow := by
  have G_law_any : FnOk P w K mg base CX0 1 fa fda P_law_any spAny := ok_any d_law_any T
  refine A0.F.ok sc_law_row (fun vs H Q E h => ?_) (fun cdv A outer s H vs Q E hr h => ?_)
  · obtain ⟨d, l, A, n, rfl, _⟩ := h
    rfl
  · obtain ⟨d, l, A, n, rfl, A0, A1, n0, n1, D, k⟩ := h
    refine ⟨_, (pss_one (ps_ret (pe_tupleOf (by rfl) T.tuple (pe_lc (own := [("turn", 3)]) (g := gName 3) (tt := tYes) rfl sc_law_row.nd (pi_range1 rfl T.range (pa_cons (pv 2) pa_nil)) (blkOk_by (N := N_law_row) (sc := defScope s_law_row) (by decide +kernel)) (fun _ _ _ _ _ => (pg_name (i := 3) sc_law_row.nd rfl (Or.inl rfl))) (fun _ _ _ _ _ => pts_nil) (fun _ _ _ _ _ => (pe_call G_law_any (hr.mono (by decide)) rfl d_law_any.g d_law_any.F.kp d_law_any.b .nil pass0 (pa_cons (pv 0) (pa_cons (pv 1) pa_nil)))))))), ?_⟩
    refine ⟨_, rfl, n, rfl, by omega, by omega, fun p hp => lcI (fun _ z => 0 ≤ z ∧ z < A) hp D (by omega) (fun i H2 hi x _ Q2 kQ => ?_) (fun ns H2 hl hz hD x k1 => ?_)⟩
    · exact ⟨_, rfl, _, rfl, d, l, A, rfl, A0, by omega, x, fun H3 z x3 k3 z0 z1 => kQ _ _ x3 k3 ⟨z0, z1⟩⟩
    · refine .inl ⟨p, _, rfl, SqL.of hD, fun q hq => ?_⟩
      exact k _ q ns (x.new hq) (k1.trans (SB.new hq)) (k1.kp.free (x.free hq) hq) upd_same (by omega) (all_of_get hz)
theorem ok_led {f : Addr} {fd : FuncData} (A0 : Df K mg "_law_led" s_law_led f fd P_law_led) (T : Txt mg) : FnOk P w K mg base CX0 1 f fd P_law_led (spLed K) := by
  refine A0.F.ok sc_law_led (fun vs H Q E h => ?_) (fun cdv A outer s H vs Q E hr h => ?_)
  · obtain ⟨a, p, z, A, ts, ns, rfl, _⟩ := h
    rfl
  · obtain ⟨a, p, z, A, ts, ns, rfl, G, R, z0, z1, hp, hc, k⟩ := h
    refine ⟨_, (pss_cons (ps_for PassesOwn.never rfl (pi_tup (pv 2)) (pg_name (i := 3) sc_law_led.nd rfl (Or.inl rfl))
      (pss_one (ps_set (i := 1) sc_law_led.nd rfl (Or.inl rfl) (pe_ix ix_list (pe_ix ix_list (pv 0) (pv 1) (fun _ _ => rfl)) (pv 3) (fun _ _ => rfl)))))
    (pss_one (ps_ret (pv 1)))), ?_⟩
    have hl : (rsOf ts).length = ts.length := List.length_map ..
    refine ⟨_, rfl, p, rfl, ⟨_, hp⟩, for_tup (K := K) (a := p) (xs := ns.map V.int) (fun i σ H1 => H1 = H ∧ ∃ v : Option V, σ = [some (.ref a), some (.int (led (rsOf ts) z (ns.take i))), some (.ref p), v]) ⟨rfl, none, rfl⟩ (fun i σ H1 _ x => by rw [x.1]; exact hp) ?_ ?_⟩
    · rintro i x σ H1 hi ⟨rfl, v, rfl⟩
      obtain ⟨c, hci, rfl⟩ : ∃ c, ns[i]? = some c ∧ V.int c = x := by
        rw [List.getElem?_map] at hi
        cases e : ns[i]? with
        | none => rw [e] at hi; cases hi
        | some c => rw [e] at hi; exact ⟨c, rfl, Option.some.inj hi⟩
      have hcm := hc c (mem_of_get hci)
      have hs := R.rs.led (ns := ns.take i) (s := z) z0 (by rw [List.length_map]; exact z1) fun y hy => hc y (List.mem_of_mem_take hy)
      rw [show (ts.map (·.2)) = rsOf ts from rfl, hl] at hs
      obtain ⟨u, hu, hum⟩ : ∃ u, ts[(led (rsOf ts) z (ns.take i)).toNat]? = some u ∧ u ∈ ts := by
        have h : (led (rsOf ts) z (ns.take i)).toNat < ts.length := by omega
        exact ⟨_, List.getElem?_eq_getElem h, List.getElem_mem h⟩
      obtain ⟨ru, _⟩ := R.row u hum
      refine ⟨_, rfl, _, rfl, a, _, _, V.ref u.1, rfl, rfl, SqL.of G.top, atI_int hs.1 (by rw [List.getElem?_map, hu] <;> rfl), _, rfl, u.1, _, c, V.int (u.2.getD c.toNat 0), rfl, rfl, SqL.of (G.row u hum), atI_int hcm.1 ?_, ?_⟩
      · rw [List.getElem?_map, item_of hcm.1 (by omega) 0]
        rfl
      · refine ⟨rfl, some (.int c), ?_⟩
        have e : led (rsOf ts) z (ns.take (i + 1)) = u.2.getD c.toNat 0 := by
          unfold led
          rw [take_next hci, List.foldl_append]
          show stp (rsOf ts) (led (rsOf ts) z (ns.take i)) c = _
          unfold stp
          have e2 : (rsOf ts).getD (led (rsOf ts) z (ns.take i)).toNat [] = u.2 := getD_of (rsOf_get hu)
          rw [e2]
        rw [e]
        rfl
    · rintro σ H1 ⟨rfl, v, rfl⟩
      rw [List.length_map, List.take_length]
      exact ⟨_, rfl, k⟩
theorem ok_effect {f fl : Addr} {fd fdl : FuncData} (A0 : Df K mg "_law_effect" s_law_effect f fd P_law_effect) (d_law_led : Df K mg "_law_led" s_law_led fl fdl P_law_led) (T : Txt mg) : FnOk P w K mg base CX0 2 f fd P_law_effect (spEffect K) := by
  have G_law_led : FnOk P w K mg base CX0 1 fl fdl P_law_led (spLed K) := ok_led d_law_led T
  refine A0.F.ok sc_law_effect (fun vs H Q E h => ?_) (fun cdv A outer s H vs Q E hr h => ?_)
  · obtain ⟨a, p, A, ts, ns, rfl, _⟩ := h
    rfl
  · obtain ⟨a, p, A, ts, ns, rfl, G, R, h1, hp, hc, k⟩ := h
    refine ⟨_, (pss_one (ps_ret (pe_tupleOf (by rfl) T.tuple (pe_lc (own := [("state", 2)]) (g := gName 2) (tt := tYes) (te := tCall (spLed K) [] E0 (tCons (tVar 0) (tCons (tVar 2) (tCons (tVar 1) tNil)))) rfl sc_law_effect.nd (pi_range1 rfl T.range (pa_cons (pe_callB call_len_seq (by rfl) T.len PySem.boot_len (pa_cons (pv 0) pa_nil)) pa_nil)) (blkOk_by (N := N_law_effect) (sc := defScope s_law_effect) (by decide +kernel)) (fun _ _ _ _ _ => (pg_name (i := 2) sc_law_effect.nd rfl (Or.inl rfl))) (fun _ _ _ _ _ => pts_nil) (fun _ _ _ _ _ => (pe_call G_law_led (hr.mono (by decide)) rfl d_law_led.g d_law_led.F.kp d_law_led.b .nil pass0 (pa_cons (pv 0) (pa_cons (pv 2) (pa_cons (pv 1) pa_nil))))))))), ?_⟩
    have hl : (rsOf ts).length = ts.length := List.length_map ..
    refine ⟨_, rfl, a, _, rfl, .inl (SqL.of G.top), _, rfl, by omega, by rw [List.length_map]; omega, fun q hq => ?_⟩
    rw [List.length_map]
    refine lcPR (fun i => V.int (led (rsOf ts) (i : Int) ns)) hq (by simp; omega) (fun i hi H1 S1 Q1 kQ => ?_) (fun H1 e S1 => .inl ⟨q, _, rfl, SqL.of e, fun t ht => ?_⟩)
    · simp at hi
      refine ⟨_, rfl, _, rfl, _, rfl, a, p, _, A, ts, ns, rfl, G.same S1, R, by omega, by omega, sameT S1 hp, hc, ?_⟩
      rw [Int.zero_add]
      exact kQ _ (Same.refl _)
    · refine k _ t (S1.trans (KP.new (S := fun _ => False) ht).toSame) (S1.free ht) ?_
      rw [upd_same]
      unfold effs
      rw [hl, List.map_map]
      rfl
def fC (one : List Int) : V → V
  | .int s => .int (one.getD s.toNat 0)
  | x => x
theorem fC_map (f g : List Int) : (f.map V.int).map (fC g) = (comp f g).map V.int := by
  unfold comp
  rw [List.map_map, List.map_map]
  rfl
structure InR (n : Nat) (f : List Int) : Prop where
  len : f.length = n
  mem : ∀ z ∈ f, 0 ≤ z ∧ z < (n : Int)
theorem InR.comp {n : Nat} {f g : List Int} (x : InR n f) (y : InR n g) : InR n (Lk.comp f g) := by
  refine ⟨by unfold Lk.comp; rw [List.length_map, x.len], fun z hz => ?_⟩
  obtain ⟨s, hs, rfl⟩ := List.mem_map.mp hz
  obtain ⟨s0, s1⟩ := x.mem s hs
  exact y.mem _ (mem_of_get (item_of s0 (by rw [y.len]; exact s1) (0 : Int)))
theorem InR.rng (n : Nat) : InR n (Lk.rng n) := by
  refine ⟨by unfold Lk.rng; simp, fun z hz => ?_⟩
  obtain ⟨i, hi, rfl⟩ := List.mem_map.mp hz
  have := List.mem_range.mp hi
  omega
theorem rgV_rng (n : Nat) : rgV 0 (n : Int) = (rng n).map V.int := by
  unfold rgV rng
  rw [List.map_map]
  simp
end
end Lk

set_option Elab.async false
set_option linter.all false
namespace Lk
/-! ### classes of states, faces -/
/-- for each item the first place at which it stands -/
def kerG {α : Type} [BEq α] (xs : List α) : List Int := xs.map fun x => ((xs.idxOf x : Nat) : Int)
def sm {α : Type} (L : List α) (i j : Nat) : Prop := L[i]? = L[j]?
theorem idxG {α : Type} [BEq α] [LawfulBEq α] {x : α} : ∀ {xs : List α}, x ∈ xs → xs[xs.idxOf x]? = some x ∧ ∀ m, m < xs.idxOf x → xs[m]? ≠ some x
  | [], h => by cases h
  | y :: ys, h => by
    by_cases e : y = x
    · subst e
      rw [List.idxOf_cons_self]
      exact ⟨rfl, fun m hm => absurd hm (Nat.not_lt_zero m)⟩
    · have hm : x ∈ ys := (List.mem_cons.mp h).resolve_left fun q => e q.symm
      obtain ⟨h1, h2⟩ := idxG hm
      have e1 : (y == x) = false := by simpa using e
      have e2 : (y :: ys).idxOf x = ys.idxOf x + 1 := by
        rw [List.idxOf_cons, e1]
        rfl
      rw [e2]
      refine ⟨h1, fun m hm2 => ?_⟩
      cases m with
      | zero => exact fun q => e (Option.some.inj q)
      | succ m => exact h2 m (by omega)
section
variable {α β : Type} [BEq α] [LawfulBEq α] [BEq β] [LawfulBEq β]
theorem ker_len (xs : List α) : (kerG xs).length = xs.length := List.length_map ..
theorem ker_get {xs : List α} {i : Nat} {x : α} (h : xs[i]? = some x) : (kerG xs)[i]? = some ((xs.idxOf x : Nat) : Int) := by
  unfold kerG
  rw [List.getElem?_map, h]
  rfl
theorem idx_le {xs : List α} {i : Nat} {x : α} (h : xs[i]? = some x) : xs.idxOf x ≤ i := by
  obtain ⟨_, h2⟩ := idxG (List.mem_of_getElem? h)
  exact Nat.le_of_not_lt fun q => h2 i q h
theorem sm_ker {xs : List α} {i j : Nat} (hi : i < xs.length) (hj : j < xs.length) : sm (kerG xs) i j ↔ sm xs i j := by
  obtain ⟨x, hx⟩ : ∃ x, xs[i]? = some x := ⟨_, List.getElem?_eq_getElem hi⟩
  obtain ⟨y, hy⟩ : ∃ y, xs[j]? = some y := ⟨_, List.getElem?_eq_getElem hj⟩
  unfold sm
  rw [ker_get hx, ker_get hy, hx, hy]
  constructor
  · intro h
    have e : xs.idxOf x = xs.idxOf y := by
      have := Option.some.inj h
      omega
    have h1 := (idxG (List.mem_of_getElem? hx)).1
    rw [e, (idxG (List.mem_of_getElem? hy)).1] at h1
    exact h1.symm
  · intro h
    rw [Option.some.inj h]
theorem ker_ext {xs : List α} {ys : List β} (hl : xs.length = ys.length) (h : ∀ i j, i < xs.length → j < xs.length → (sm xs i j ↔ sm ys i j)) : kerG xs = kerG ys := by
  apply List.ext_getElem?
  intro i
  by_cases hi : i < xs.length
  · obtain ⟨x, hx⟩ : ∃ x, xs[i]? = some x := ⟨_, List.getElem?_eq_getElem hi⟩
    obtain ⟨y, hy⟩ : ∃ y, ys[i]? = some y := ⟨_, List.getElem?_eq_getElem (by omega)⟩
    rw [ker_get hx, ker_get hy]
    have x1 := (idxG (List.mem_of_getElem? hx)).1
    have y1 := (idxG (List.mem_of_getElem? hy)).1
    have xl := idx_le hx
    have yl := idx_le hy
    have a : xs.idxOf x ≤ ys.idxOf y := by
      have e : sm ys (ys.idxOf y) i := by
        unfold sm
        rw [y1, hy]
      have e2 := (h _ _ (by omega) hi).mpr e
      unfold sm at e2
      rw [hx] at e2
      exact idx_le e2
    have b : ys.idxOf y ≤ xs.idxOf x := by
      have e : sm xs (xs.idxOf x) i := by
        unfold sm
        rw [x1, hx]
      have e2 := (h _ _ (by omega) hi).mp e
      unfold sm at e2
      rw [hy] at e2
      exact idx_le e2
    rw [Nat.le_antisymm a b]
  · rw [List.getElem?_eq_none (by rw [ker_len]; omega), List.getElem?_eq_none (by rw [ker_len]; omega)]
theorem ker_ker (xs : List α) : kerG (kerG xs) = kerG xs := ker_ext (ker_len xs) fun i j hi hj => sm_ker (by rw [← ker_len xs]; exact hi) (by rw [← ker_len xs]; exact hj)
end
theorem canon_at {L : List Int} (c : kerG L = L) {i : Nat} {z : Int} (h : L[i]? = some z) : 0 ≤ z ∧ z.toNat ≤ i ∧ L[z.toNat]? = some z := by
  have e := ker_get h
  rw [c, h] at e
  have e2 : z = ((L.idxOf z : Nat) : Int) := Option.some.inj e
  have l := idx_le h
  have g := (idxG (List.mem_of_getElem? h)).1
  have e3 : z.toNat = L.idxOf z := by omega
  rw [e3]
  exact ⟨by omega, l, g⟩
/-- commands lead states of one class into one class -/
def Cong (rs : List (List Int)) (A : Nat) (L : List Int) : Prop := ∀ i j, i < rs.length → j < rs.length → sm L i j → ∀ x, x < A → sm L (stp rs (i : Int) (x : Int)).toNat (stp rs (j : Int) (x : Int)).toNat
def Holds (W : List (Int × Int)) (E : List Int) : Prop := ∀ p ∈ W, sm E p.1.toNat p.2.toNat
def Le (n : Nat) (L E : List Int) : Prop := ∀ i j, i < n → j < n → sm L i j → sm E i j
theorem getD_sm {L : List Int} {i j : Nat} (hi : i < L.length) (hj : j < L.length) : L.getD i 0 = L.getD j 0 ↔ sm L i j := by
  unfold sm
  rw [List.getElem?_eq_getElem hi, List.getElem?_eq_getElem hj, getD_of (List.getElem?_eq_getElem hi), getD_of (List.getElem?_eq_getElem hj)]
  exact ⟨fun e => congrArg some e, Option.some.inj⟩
structure LeastFace (rs : List (List Int)) (A : Nat) (ps : List (Int × Int)) (R : List Int) : Prop where
  len : R.length = rs.length
  canon : kerG R = R
  cong : Cong rs A R
  holds : Holds ps R
  least : ∀ E : List Int, E.length = rs.length → Cong rs A E → Holds ps E → Le rs.length R E
/-- labels so far, and pairs that wait -/
structure Cl (rs : List (List Int)) (A : Nat) (ps : List (Int × Int)) (L : List Int) (W : List (Int × Int)) : Prop where
  len : L.length = rs.length
  rng : ∀ z ∈ L, 0 ≤ z ∧ z < (rs.length : Int)
  wr : ∀ p ∈ W, (0 ≤ p.1 ∧ p.1 < (rs.length : Int)) ∧ (0 ≤ p.2 ∧ p.2 < (rs.length : Int))
  below : ∀ E : List Int, E.length = rs.length → Cong rs A E → Holds ps E → Le rs.length L E ∧ Holds W E
  up : ∀ E : List Int, E.length = rs.length → Le rs.length L E → Holds W E → (∀ i j, i < rs.length → j < rs.length → sm L i j → ∀ x, x < A → sm E (stp rs (i : Int) (x : Int)).toNat (stp rs (j : Int) (x : Int)).toNat) ∧ Holds ps E
def rngI (n : Nat) : List Int := (List.range n).map fun (i : Nat) => (i : Int)
theorem rngI_get {n i : Nat} (h : i < n) : (rngI n)[i]? = some (i : Int) := by
  unfold rngI
  rw [List.getElem?_map, List.getElem?_range h]
  rfl
theorem Cl.start {rs : List (List Int)} {A : Nat} {ps : List (Int × Int)} (wr : ∀ p ∈ ps, (0 ≤ p.1 ∧ p.1 < (rs.length : Int)) ∧ (0 ≤ p.2 ∧ p.2 < (rs.length : Int))) : Cl rs A ps (rngI rs.length) ps := by
  have one : ∀ i j, i < rs.length → j < rs.length → sm (rngI rs.length) i j → i = j := fun i j hi hj h => by
    unfold sm at h
    rw [rngI_get hi, rngI_get hj] at h
    have := Option.some.inj h
    omega
  refine ⟨by unfold rngI; simp, fun z hz => ?_, wr, fun E hl hc hp => ⟨fun i j hi hj h => ?_, hp⟩, fun E hl hL hp => ⟨fun i j hi hj h x hx => ?_, hp⟩⟩
  · unfold rngI at hz
    obtain ⟨i, hi, rfl⟩ := List.mem_map.mp hz
    have := List.mem_range.mp hi
    omega
  · rw [one i j hi hj h]
    rfl
  · rw [one i j hi hj h]
    rfl
theorem Cl.skip {rs : List (List Int)} {A : Nat} {ps W : List (Int × Int)} {L : List Int} {p : Int × Int} (c : Cl rs A ps L (W ++ [p])) (h : sm L p.1.toNat p.2.toNat) : Cl rs A ps L W := by
  obtain ⟨w1, w2⟩ := c.wr p (List.mem_append_right _ List.mem_cons_self)
  refine ⟨c.len, c.rng, fun q hq => c.wr q (List.mem_append_left _ hq), fun E hl hc hp => ?_, fun E hl hL hW => c.up E hl hL fun q hq => ?_⟩
  · obtain ⟨h1, h2⟩ := c.below E hl hc hp
    exact ⟨h1, fun q hq => h2 q (List.mem_append_left _ hq)⟩
  · rcases List.mem_append.mp hq with q1 | q1
    · exact hW q q1
    · rw [List.mem_singleton.mp q1]
      exact hL _ _ (by omega) (by omega) h
def mrg (L : List Int) (a b : Int) : List Int := L.map fun l => if l = b then a else l
theorem sm_mrg {L : List Int} {s t : Nat} {a b : Int} (hs : L[s]? = some a) (ht : L[t]? = some b) {i j : Nat} (hi : i < L.length) (hj : j < L.length) (h : sm (mrg L a b) i j) : sm L i j ∨ (sm L i s ∧ sm L t j) ∨ (sm L i t ∧ sm L s j) := by
  obtain ⟨x, hx⟩ : ∃ x, L[i]? = some x := ⟨_, List.getElem?_eq_getElem hi⟩
  obtain ⟨y, hy⟩ : ∃ y, L[j]? = some y := ⟨_, List.getElem?_eq_getElem hj⟩
  unfold sm mrg at h
  rw [List.getElem?_map, List.getElem?_map, hx, hy] at h
  have e : (if x = b then a else x) = (if y = b then a else y) := Option.some.inj h
  unfold sm
  rw [hx, hy, hs, ht]
  by_cases e1 : x = b <;> by_cases e2 : y = b
  · exact .inl (by rw [e1, e2])
  · rw [if_pos e1, if_neg e2] at e
    exact .inr (.inr ⟨by rw [e1], by rw [e]⟩)
  · rw [if_neg e1, if_pos e2] at e
    exact .inr (.inl ⟨by rw [e], by rw [e2]⟩)
  · rw [if_neg e1, if_neg e2] at e
    exact .inl (by rw [e])
theorem mrg_sm {L : List Int} {s t : Nat} {a b : Int} (hs : L[s]? = some a) (ht : L[t]? = some b) : sm (mrg L a b) s t ∧ ∀ i j, sm L i j → sm (mrg L a b) i j := by
  unfold sm mrg
  constructor
  · rw [List.getElem?_map, List.getElem?_map, hs, ht]
    show some (if a = b then a else a) = some (if b = b then a else b)
    by_cases e : a = b
    · rw [if_pos e, if_pos rfl]
    · rw [if_neg e, if_pos rfl]
  · intro i j h
    rw [List.getElem?_map, List.getElem?_map, h]
def zipS (rs : List (List Int)) (s t : Int) : List (Int × Int) := List.zip (rs.getD s.toNat []) (rs.getD t.toNat [])
theorem zipS_mem {rs : List (List Int)} {A : Nat} (R : Rs A rs) {s t : Int} (s0 : 0 ≤ s) (s1 : s < rs.length) (t0 : 0 ≤ t) (t1 : t < rs.length) {p : Int × Int} : p ∈ zipS rs s t ↔ ∃ x, x < A ∧ p = (stp rs s (x : Int), stp rs t (x : Int)) := by
  have g1 := item_of s0 s1 ([] : List Int)
  have g2 := item_of t0 t1 ([] : List Int)
  have l1 := (R.row _ (mem_of_get g1)).1
  have l2 := (R.row _ (mem_of_get g2)).1
  unfold zipS stp
  constructor
  · intro h
    obtain ⟨x, hx⟩ := List.mem_iff_getElem?.mp h
    obtain ⟨u, v, h1, h2, h3⟩ := List.getElem?_zip_eq_some.mp hx |> fun q => (⟨p.1, p.2, q.1, q.2, rfl⟩ : ∃ u v, (rs.getD s.toNat [])[x]? = some u ∧ (rs.getD t.toNat [])[x]? = some v ∧ p = (u, v))
    have lt : x < A := by
      rw [← l1]
      exact (List.getElem?_eq_some_iff.mp h1).1
    refine ⟨x, lt, ?_⟩
    rw [h3, Int.toNat_natCast, getD_of h1, getD_of h2]
  · rintro ⟨x, hx, rfl⟩
    rw [Int.toNat_natCast]
    have h1 : (rs.getD s.toNat [])[x]? = some ((rs.getD s.toNat []).getD x 0) := by
      rw [List.getElem?_eq_getElem (by omega)]
      exact congrArg some (getD_of (List.getElem?_eq_getElem (by omega))).symm
    have h2 : (rs.getD t.toNat [])[x]? = some ((rs.getD t.toNat []).getD x 0) := by
      rw [List.getElem?_eq_getElem (by omega)]
      exact congrArg some (getD_of (List.getElem?_eq_getElem (by omega))).symm
    exact List.mem_of_getElem? (List.getElem?_zip_eq_some.mpr ⟨h1, h2⟩)
theorem zipS_len {rs : List (List Int)} {A : Nat} (R : Rs A rs) {s t : Int} (s0 : 0 ≤ s) (s1 : s < rs.length) (t0 : 0 ≤ t) (t1 : t < rs.length) : (zipS rs s t).length = A := by
  have l1 := (R.row _ (mem_of_get (item_of s0 s1 ([] : List Int)))).1
  have l2 := (R.row _ (mem_of_get (item_of t0 t1 ([] : List Int)))).1
  unfold zipS
  rw [List.length_zip, l1, l2, Nat.min_self]
theorem Cl.join {rs : List (List Int)} {A : Nat} (R : Rs A rs) {ps W : List (Int × Int)} {L : List Int} {s t a b : Int} (c : Cl rs A ps L (W ++ [(s, t)])) (hs : L[s.toNat]? = some a) (ht : L[t.toNat]? = some b) : Cl rs A ps (mrg L a b) (W ++ zipS rs s t) := by
  obtain ⟨⟨s0, s1⟩, t0, t1⟩ := c.wr (s, t) (List.mem_append_right _ List.mem_cons_self)
  have s0 : 0 ≤ s := s0
  have s1 : s < (rs.length : Int) := s1
  have t0 : 0 ≤ t := t0
  have t1 : t < (rs.length : Int) := t1
  have len : (mrg L a b).length = rs.length := by
    unfold mrg
    rw [List.length_map, c.len]
  have ss : ((s.toNat : Nat) : Int) = s := by omega
  have tt : ((t.toNat : Nat) : Int) = t := by omega
  have es : s.toNat < rs.length := by omega
  have et : t.toNat < rs.length := by omega
  refine ⟨len, fun z hz => ?_, fun p hp => ?_, fun E hl hc hp => ?_, fun E hl hL hW => ?_⟩
  · unfold mrg at hz
    obtain ⟨l, hl, rfl⟩ := List.mem_map.mp hz
    by_cases e : l = b
    · rw [if_pos e]
      exact c.rng _ (List.mem_of_getElem? hs)
    · rw [if_neg e]
      exact c.rng _ hl
  · rcases List.mem_append.mp hp with q | q
    · exact c.wr p (List.mem_append_left _ q)
    · obtain ⟨x, hx, rfl⟩ := (zipS_mem R s0 s1 t0 t1).mp q
      exact ⟨R.stp s0 s1 (by omega) (by omega), R.stp t0 t1 (by omega) (by omega)⟩
  · obtain ⟨h1, h2⟩ := c.below E hl hc hp
    have hst : sm E s.toNat t.toNat := h2 (s, t) (List.mem_append_right _ List.mem_cons_self)
    refine ⟨fun i j hi hj h => ?_, fun p hp => ?_⟩
    · rcases sm_mrg hs ht (by rw [c.len]; exact hi) (by rw [c.len]; exact hj) h with q | ⟨q1, q2⟩ | ⟨q1, q2⟩
      · exact h1 i j hi hj q
      · exact (h1 _ _ hi es q1).trans (hst.trans (h1 _ _ et hj q2))
      · exact (h1 _ _ hi et q1).trans (hst.symm.trans (h1 _ _ es hj q2))
    · rcases List.mem_append.mp hp with q | q
      · exact h2 p (List.mem_append_left _ q)
      · obtain ⟨x, hx, rfl⟩ := (zipS_mem R s0 s1 t0 t1).mp q
        have := hc s.toNat t.toNat es et hst x hx
        rw [ss, tt] at this
        exact this
  · obtain ⟨m1, m2⟩ := mrg_sm hs ht
    have hst : sm E s.toNat t.toNat := hL _ _ es et m1
    have hLE : Le rs.length L E := fun i j hi hj h => hL i j hi hj (m2 i j h)
    obtain ⟨u1, u2⟩ := c.up E hl hLE fun p hp => by
      rcases List.mem_append.mp hp with q | q
      · exact hW p (List.mem_append_left _ q)
      · rw [List.mem_singleton.mp q]
        exact hst
    have hz : ∀ x, x < A → sm E (stp rs s (x : Int)).toNat (stp rs t (x : Int)).toNat := fun x hx => hW _ (List.mem_append_right _ ((zipS_mem R s0 s1 t0 t1).mpr ⟨x, hx, rfl⟩))
    refine ⟨fun i j hi hj h x hx => ?_, u2⟩
    rcases sm_mrg hs ht (by rw [c.len]; exact hi) (by rw [c.len]; exact hj) h with q | ⟨q1, q2⟩ | ⟨q1, q2⟩
    · exact u1 i j hi hj q x hx
    · have r1 := u1 _ _ hi es q1 x hx
      have r2 := u1 _ _ et hj q2 x hx
      rw [ss] at r1
      rw [tt] at r2
      exact r1.trans ((hz x hx).trans r2)
    · have r1 := u1 _ _ hi et q1 x hx
      have r2 := u1 _ _ es hj q2 x hx
      rw [tt] at r1
      rw [ss] at r2
      exact r1.trans ((hz x hx).symm.trans r2)
theorem Cl.done {rs : List (List Int)} {A : Nat} (R : Rs A rs) {ps : List (Int × Int)} {L : List Int} (c : Cl rs A ps L []) (wr : ∀ p ∈ ps, (0 ≤ p.1 ∧ p.1 < (rs.length : Int)) ∧ (0 ≤ p.2 ∧ p.2 < (rs.length : Int))) : LeastFace rs A ps (kerG L) := by
  have lk : ∀ {i}, i < rs.length → i < L.length := fun h => by rw [c.len]; exact h
  have e : ∀ {i j}, i < rs.length → j < rs.length → (sm (kerG L) i j ↔ sm L i j) := fun hi hj => sm_ker (lk hi) (lk hj)
  obtain ⟨u1, u2⟩ := c.up L c.len (fun i j hi hj h => h) fun p hp => by cases hp
  refine ⟨by rw [ker_len, c.len], ker_ker L, fun i j hi hj h x hx => ?_, fun p hp => ?_, fun E hl hc hp i j hi hj h => (c.below E hl hc hp).1 i j hi hj ((e hi hj).mp h)⟩
  · have r1 := R.stp (s := (i : Int)) (c := (x : Int)) (by omega) (by omega) (by omega) (by omega)
    have r2 := R.stp (s := (j : Int)) (c := (x : Int)) (by omega) (by omega) (by omega) (by omega)
    exact (e (by omega) (by omega)).mpr (u1 i j hi hj ((e hi hj).mp h) x hx)
  · obtain ⟨w1, w2⟩ := wr p hp
    exact (e (by omega) (by omega)).mpr (u2 p hp)
/-! the measure -/
def cnt (n : Nat) (L : List Int) : Nat := (List.range n).countP fun (v : Nat) => decide ((v : Int) ∈ L)
theorem countP_lt {α : Type} {p q : α → Bool} : ∀ {l : List α}, (∀ x ∈ l, p x = true → q x = true) → (∃ x ∈ l, q x = true ∧ p x = false) → l.countP p < l.countP q
  | [], _, h => by
    obtain ⟨x, hx, _⟩ := h
    cases hx
  | y :: l, hpq, ⟨x, hx, h1, h2⟩ => by
    have le : l.countP p ≤ l.countP q := List.countP_mono_left fun z hz hp => hpq z (List.mem_cons_of_mem _ hz) hp
    rw [List.countP_cons, List.countP_cons]
    rcases List.mem_cons.mp hx with rfl | hx'
    · rw [h1, h2]
      simp
      omega
    · have ih := countP_lt (l := l) (fun z hz => hpq z (List.mem_cons_of_mem _ hz)) ⟨x, hx', h1, h2⟩
      have hy := hpq y List.mem_cons_self
      by_cases e : p y = true
      · rw [if_pos e, if_pos (hy e)]
        omega
      · rw [if_neg e]
        omega
theorem cnt_mrg {n : Nat} {L : List Int} {s t : Nat} {a b : Int} (hs : L[s]? = some a) (ht : L[t]? = some b) (ne : a ≠ b) (hr : ∀ z ∈ L, 0 ≤ z ∧ z < (n : Int)) : cnt n (mrg L a b) < cnt n L := by
  have hb := List.mem_of_getElem? ht
  obtain ⟨b0, b1⟩ := hr b hb
  refine countP_lt (fun v hv h => ?_) ⟨b.toNat, List.mem_range.mpr (by omega), ?_, ?_⟩
  · have h := of_decide_eq_true h
    unfold mrg at h
    obtain ⟨l, hl, e⟩ := List.mem_map.mp h
    refine decide_eq_true ?_
    by_cases q : l = b
    · rw [if_pos q] at e
      rw [← e]
      exact List.mem_of_getElem? hs
    · rw [if_neg q] at e
      rw [← e]
      exact hl
  · refine decide_eq_true ?_
    rw [show ((b.toNat : Nat) : Int) = b by omega]
    exact hb
  · refine decide_eq_false fun h => ?_
    rw [show ((b.toNat : Nat) : Int) = b by omega] at h
    unfold mrg at h
    obtain ⟨l, hl, e⟩ := List.mem_map.mp h
    by_cases q : l = b
    · rw [if_pos q] at e
      exact ne e
    · rw [if_neg q] at e
      exact q e
theorem cnt_le (n : Nat) (L : List Int) : cnt n L ≤ n := by
  have := List.countP_le_length (p := fun (v : Nat) => decide ((v : Int) ∈ L)) (l := List.range n)
  rw [List.length_range] at this
  exact this
/-! ### common classes, all divisions -/
def colsL (ps : List (List Int)) (n : Nat) : List (List Int) := (List.range n).map fun s => ps.map fun p => p.getD s 0
def comL (ps : List (List Int)) (n : Nat) : List Int := kerG (colsL ps n)
theorem colsL_len (ps : List (List Int)) (n : Nat) : (colsL ps n).length = n := by
  unfold colsL
  simp
theorem sm_cols {ps : List (List Int)} {n : Nat} (hp : ∀ p ∈ ps, p.length = n) {i j : Nat} (hi : i < n) (hj : j < n) : sm (colsL ps n) i j ↔ ∀ p ∈ ps, sm p i j := by
  have g : ∀ {i : Nat}, i < n → (colsL ps n)[i]? = some (ps.map fun p => p.getD i 0) := fun {i} h => by
    unfold colsL
    rw [List.getElem?_map, List.getElem?_range h]
    rfl
  unfold sm
  rw [g hi, g hj]
  constructor
  · intro h p hpm
    have e := List.map_inj_left.mp (Option.some.inj h) p hpm
    exact (getD_sm (by rw [hp p hpm]; exact hi) (by rw [hp p hpm]; exact hj)).mp e
  · intro h
    congr 1
    exact List.map_inj_left.mpr fun p hpm => (getD_sm (by rw [hp p hpm]; exact hi) (by rw [hp p hpm]; exact hj)).mpr (h p hpm)
theorem com_least {rs : List (List Int)} {A : Nat} {ps : List (Int × Int)} {R : List Int} (x : LeastFace rs A ps R) {fs : List (List Int)} (h : ∀ F ∈ fs, F.length = rs.length ∧ Cong rs A F ∧ Holds ps F) (hm : R ∈ fs) : comL fs rs.length = R := by
  unfold comL
  rw [← x.canon]
  refine ker_ext (by rw [colsL_len, x.len]) fun i j hi hj => ?_
  rw [colsL_len] at hi hj
  rw [sm_cols (fun p hp => (h p hp).1) hi hj]
  constructor
  · exact fun q => q R hm
  · intro q F hF
    obtain ⟨h1, h2, h3⟩ := h F hF
    exact x.least F h1 h2 h3 i j hi hj q
theorem com_zip {one other : List Int} {n : Nat} (h1 : one.length = n) (h2 : other.length = n) : kerG (List.zip one other) = comL [one, other] n := by
  unfold comL
  have lz : (List.zip one other).length = n := by rw [List.length_zip, h1, h2, Nat.min_self]
  refine ker_ext (by rw [colsL_len, lz]) fun i j hi hj => ?_
  rw [lz] at hi hj
  rw [sm_cols (fun p hp => by rcases List.mem_cons.mp hp with rfl | hp; exact h1; rw [List.mem_singleton.mp hp]; exact h2) hi hj]
  have g : ∀ {i : Nat}, i < n → ∃ x y, one[i]? = some x ∧ other[i]? = some y ∧ (List.zip one other)[i]? = some (x, y) := fun {i} h => by
    obtain ⟨x, hx⟩ : ∃ x, one[i]? = some x := ⟨_, List.getElem?_eq_getElem (by omega)⟩
    obtain ⟨y, hy⟩ : ∃ y, other[i]? = some y := ⟨_, List.getElem?_eq_getElem (by omega)⟩
    exact ⟨x, y, hx, hy, List.getElem?_zip_eq_some.mpr ⟨hx, hy⟩⟩
  obtain ⟨x, y, a1, a2, a3⟩ := g hi
  obtain ⟨u, v, b1, b2, b3⟩ := g hj
  unfold sm
  rw [a3, b3]
  constructor
  · intro h p hp
    have e := Option.some.inj h
    injection e with e1 e2
    rcases List.mem_cons.mp hp with rfl | hp
    · rw [a1, b1, e1]
    · rw [List.mem_singleton.mp hp, a2, b2, e2]
  · intro h
    have e1 := h one List.mem_cons_self
    have e2 := h other (List.mem_cons_of_mem _ List.mem_cons_self)
    rw [a1, b1] at e1
    rw [a2, b2] at e2
    rw [Option.some.inj e1, Option.some.inj e2]
/-- all divisions of so many states -/
def oneMore (m : Nat) (p : List Int) : List (List Int) := ((rngI (m + 1)).filter fun l => decide (l = (m : Int)) || decide (p.getD l.toNat 0 = l)).map fun l => p ++ [l]
def partsL : Nat → List (List Int)
  | 0 => [[]]
  | m + 1 => (partsL m).flatMap (oneMore m)
theorem mem_rngI {n : Nat} {l : Int} : l ∈ rngI n ↔ 0 ≤ l ∧ l < (n : Int) := by
  unfold rngI
  constructor
  · intro h
    obtain ⟨i, hi, rfl⟩ := List.mem_map.mp h
    have := List.mem_range.mp hi
    omega
  · rintro ⟨h0, h1⟩
    exact List.mem_map.mpr ⟨l.toNat, List.mem_range.mpr (by omega), by omega⟩
theorem idx_app {q r : List Int} {x : Int} (h : x ∈ q) : (q ++ r).idxOf x = q.idxOf x := by
  rw [List.idxOf_append, if_pos h]
theorem canon_snoc {q : List Int} {l : Int} : kerG (q ++ [l]) = q ++ [l] ↔ kerG q = q ∧ (l = (q.length : Int) ∨ (0 ≤ l ∧ q[l.toNat]? = some l)) := by
  have e1 : kerG (q ++ [l]) = kerG q ++ [(((q ++ [l]).idxOf l : Nat) : Int)] := by
    unfold kerG
    rw [List.map_append]
    congr 1
    exact List.map_inj_left.mpr fun x hx => by rw [idx_app hx]
  rw [e1]
  constructor
  · intro h
    obtain ⟨h1, h2⟩ := List.append_inj h (ker_len q)
    refine ⟨h1, ?_⟩
    have h3 : (((q ++ [l]).idxOf l : Nat) : Int) = l := by injection h2
    by_cases hm : l ∈ q
    · rw [idx_app hm] at h3
      refine .inr ⟨by omega, ?_⟩
      have := (idxG hm).1
      rw [show l.toNat = q.idxOf l by omega]
      exact this
    · rw [List.idxOf_append, if_neg hm] at h3
      simp at h3
      exact .inl (by omega)
  · rintro ⟨h1, h2⟩
    rw [h1]
    congr 1
    by_cases hm : l ∈ q
    · have hc := canon_at h1 (idxG hm).1
      have hk := ker_get (idxG hm).1
      rw [h1, (idxG hm).1] at hk
      rw [idx_app hm, ← Option.some.inj hk]
    · rcases h2 with h2 | ⟨h3, h4⟩
      · rw [List.idxOf_append, if_neg hm, h2]
        simp
      · exact absurd (List.mem_of_getElem? h4) hm
theorem mem_parts : ∀ {m : Nat} {p : List Int}, p ∈ partsL m ↔ p.length = m ∧ kerG p = p
  | 0, p => by
    unfold partsL
    rw [List.mem_singleton]
    constructor
    · rintro rfl
      exact ⟨rfl, rfl⟩
    · rintro ⟨h, _⟩
      exact List.length_eq_zero_iff.mp h
  | m + 1, p => by
    unfold partsL
    rw [List.mem_flatMap]
    constructor
    · rintro ⟨q, hq, hp⟩
      obtain ⟨h1, h2⟩ := mem_parts.mp hq
      unfold oneMore at hp
      obtain ⟨l, hl, rfl⟩ := List.mem_map.mp hp
      obtain ⟨hl1, hl2⟩ := List.mem_filter.mp hl
      obtain ⟨l0, l1⟩ := mem_rngI.mp hl1
      refine ⟨by rw [List.length_append, h1]; rfl, canon_snoc.mpr ⟨h2, ?_⟩⟩
      by_cases e : l = (m : Int)
      · exact .inl (by rw [h1]; exact e)
      · rw [decide_eq_false e, Bool.false_or] at hl2
        have hl2 := of_decide_eq_true hl2
        have lt : l.toNat < q.length := by omega
        refine .inr ⟨l0, ?_⟩
        rw [List.getElem?_eq_getElem lt, ← getD_of (d := 0) (List.getElem?_eq_getElem lt), hl2]
    · rintro ⟨hl, hc⟩
      have ne : p ≠ [] := fun e => by
        rw [e] at hl
        simp at hl
      have es := List.dropLast_concat_getLast ne
      rw [← es] at hc
      obtain ⟨h1, h2⟩ := canon_snoc.mp hc
      have hl' : p.dropLast.length = m := by rw [List.length_dropLast, hl]; rfl
      refine ⟨p.dropLast, mem_parts.mpr ⟨hl', h1⟩, ?_⟩
      unfold oneMore
      refine List.mem_map.mpr ⟨p.getLast ne, List.mem_filter.mpr ⟨mem_rngI.mpr ?_, ?_⟩, es⟩
      · rcases h2 with h2 | ⟨h3, h4⟩
        · omega
        · have := (List.getElem?_eq_some_iff.mp h4).1
          omega
      · rcases h2 with h2 | ⟨h3, h4⟩
        · rw [h2, hl', decide_eq_true rfl, Bool.true_or]
        · rw [getD_of h4, decide_eq_true (rfl : p.getLast ne = p.getLast ne), Bool.or_true]
theorem parts_few {m : Nat} (h : m ≤ 4) : (partsL m).length ≤ 15 := by
  match m, h with
  | 0, _ => decide
  | 1, _ => decide
  | 2, _ => decide
  | 3, _ => decide
  | 4, _ => decide +kernel
end Lk

set_option Elab.async false
set_option maxRecDepth 100000
set_option maxHeartbeats 1000000
/-! enumerate over a tuple, as a walk of the hand layer -/
namespace Lk
open PySem PySem.Spec PyProof.Rows L2
/-- a new enumerate object over the iterator at it -/
def enumO (it : Addr) : Obj := { cls := .type "enumerate", data := .fields #[.none, .bool false, .ref it, rawInt 0, .none, .none] }
theorem meets_enumT (a : Addr) (items : Array Value) (dct : Option Addr) (n : Nat) (sl : Array (Option Value)) :
    Meets (Builtin.«enumerate.__new__» ⟨[.type "enumerate", .ref a], []⟩) (fun _ R s =>
      s.heap.get? a = some { cls := .type "tuple", dict := dct, data := .seq items n, slots := sl } ∧
      R (.ok (.ret (.ref (s.heap.push { cls := .type "tuple_iterator", data := .fields #[.ref a, .int 0 0] }).objs.size)))
        { s with heap := (s.heap.push { cls := .type "tuple_iterator", data := .fields #[.ref a, .int 0 0] }).push (enumO s.heap.objs.size) }) :=
  .of_wp fun prog w A R s h => by
    obtain ⟨hp, g, d, tk, os⟩ := s
    obtain ⟨hl, h⟩ := h
    have hsub := sub_enumerate
    have hT : Heap.IsTuple (Shared.heap ⟨hp, g, d, tk, os⟩) a items := ⟨_, hl, rfl, n, rfl⟩
    wp_walk using AutoSeq1.wpAny_loadPart' hl
    refine wpAny_stack_any fun st => wpAny_pure ?_
    split
    · rename_i c _ _ _ _ _
      cases (c == Value.type "enumerate") <;>
      · wp_walk using AutoSeq1.wpAny_loadPart' hl, wpAny_pyIter_tuple hT
        exact ⟨_, rfl, h⟩
    · wp_walk using AutoSeq1.wpAny_loadPart' hl, wpAny_pyIter_tuple hT
      exact ⟨_, rfl, h⟩
section
variable {prog : Program} {w : World} {A : Around} {E : Value → Shared → Prop} {s : Shared}
theorem call_enumT {a : Addr} {items : Array Value} {Q : Value → Shared → Prop} (hT : s.heap.IsTuple a items)
    (h : ∀ h', IsEnum h' (s.heap.objs.size + 1) s.heap.objs.size 0 .none →
      h'.IsTupleIter s.heap.objs.size a 0 →
      (∀ b o, s.heap.get? b = some o → h'.get? b = some o) →
      Q (.ref (s.heap.objs.size + 1)) { s with heap := h' }) :
    wpAny (model prog w) A (call (.type "enumerate") [.ref a]) Q E s := by
  obtain ⟨⟨c, dct, dt, sl⟩, hl, hc, n, hd⟩ := hT
  replace hc : c = .type "tuple" := hc
  replace hd : dt = .seq items n := hd
  subst hc hd
  refine callType_new F.called_enumerate (by decide) (F.typeCall_enumerate_1 _) (F.newCall_enumerate_1 _)
    (fun obj => F.args_object_init_2 obj _) F.entry_enumerate_new (meets_enumT a items dct n sl) ⟨hl, ?_⟩
  have hz : (s.heap.push { cls := .type "tuple_iterator", data := .fields #[.ref a, .int 0 0] }).objs.size
      = s.heap.objs.size + 1 := Heap.size_push ..
  show _ ∧ _
  rw [hz]
  have he : IsEnum ((s.heap.push { cls := .type "tuple_iterator", data := .fields #[.ref a, .int 0 0] }).push (enumO s.heap.objs.size))
      (s.heap.objs.size + 1) s.heap.objs.size 0 .none := by
    have q := Heap.get?_push_size (s.heap.push { cls := .type "tuple_iterator", data := .fields #[.ref a, .int 0 0] })
      (o := enumO s.heap.objs.size) rfl
    rw [hz] at q
    exact q
  have hi : ((s.heap.push { cls := .type "tuple_iterator", data := .fields #[.ref a, .int 0 0] }).push (enumO s.heap.objs.size)).IsTupleIter
      s.heap.objs.size a 0 := ⟨_, Heap.get?_push_of_some _ (Heap.get?_push_size _ rfl), rfl, rfl⟩
  exact ⟨⟨_, he, rfl⟩, h _ he hi fun b o x => Heap.get?_push_of_some _ (Heap.get?_push_of_some _ x)⟩
end
theorem next_enumT_end {prog : Program} {w : World} {A : Around} {E : Value → Shared → Prop} {s : Shared}
    {e it a : Addr} {i : Nat} {items : Array Value} {old : Value} {Q : Option Value → Shared → Prop} (hh : A.handled = none)
    (he : IsEnum s.heap e it i old) (hit : s.heap.IsTupleIter it a i) (ha : s.heap.IsTuple a items) (hx : items[i]? = none)
    (hQ : ∀ h', Heap.ExtBut it s.heap h' → Q none { s with heap := h' }) :
    wpAny (model prog w) A (pyNext (.ref e)) Q E s := by
  have hT : s.TypeIs (.ref e) "enumerate" := ⟨_, he, rfl⟩
  unfold pyNext
  refine wpAny_bind (wpAny_attempt (wpAny_callSpecial?_slot (name := Str.ofString "__next__") hT
    F.slot_enumerate_next (wpAny_call_entry F.slot_enumerate_next hT F.entry_enumerate_next ?_
      (F.args_enumerate_next_1 _))))
  show wpAny _ _ (field (.ref e) 2 >>= _) _ _ _
  refine wpAny_bind (wpAny_field he rfl (x := .ref it) rfl (wpAny_bind
    (wpAny_nextOf_tuple_end hh hit ha hx fun h' x hb hc => ?_)))
  obtain ⟨o, ho, hc⟩ := hc
  refine wpAny_bind (wpAny_isInstance (T := "StopIteration") (b := true) ⟨o, ho, hc⟩ isSubtype_stop ?_)
  exact wpAny_pure (hQ _ hb)
/-- the tuple at a, each item in a new pair with its index -/
def ItE (K : PySem.W.Frag) (a : Addr) : It :=
  ⟨fun i H => ∃ (xs : List V) (x : V), SqT K H a xs ∧ xs[i]? = some x,
    fun i H v H' => ∃ T x, v = .ref T ∧ H T = none ∧ H' = upd H T (.tup [.int (i : Nat), x]) ∧
      ∀ xs, SqT K H a xs → xs[i]? = some x,
    fun i H => ∃ xs : List V, SqT K H a xs ∧ xs.length ≤ i⟩
theorem turn_enumT {P : Program} {w : World} {K : PySem.W.Frag} {elts : List Expr} {kk : Nat} {tpos : Pos} (a e it : Addr) :
    Turn P w K (.Tuple elts kk tpos) (ItE K a) [e, it] e
      (fun i h => (∃ old, IsEnum h e it ((i : Nat) : Int) old) ∧ h.IsTupleIter it a i ∧ e ≠ it ∧ a ≠ it ∧ e ≠ a) where
  mem := by simp
  obj := fun i h st b hb => by
    obtain ⟨⟨old, he⟩, ⟨o, ho, hc, hd⟩, _⟩ := st
    have e' : b = e ∨ b = it := by simpa using hb
    rcases e' with z | z
    · rw [z]
      exact ⟨_, he, fun v q => nomatch q⟩
    · rw [z]
      exact ⟨o, ho, fun v q => by rw [hd] at q; cases q⟩
  keep := fun i h h' st k =>
    let ⟨⟨old, he⟩, hi, hne⟩ := st
    ⟨⟨old, k e (by simp) _ he⟩, hi.at fun o q => k it (by simp) o q, hne⟩
  item := by
    intro X hP hw hK hc i pins s σ H E I hf st hg
    subst hP hw hK
    obtain ⟨⟨old, he⟩, hit, hne, hat, hea⟩ := st
    obtain ⟨xs, x, hq, hx⟩ := hg
    obtain ⟨its, rv, p, hz⟩ := I.tuple hq
    obtain ⟨u, hu, ru⟩ := rv.get hx
    have hel : e < s.heap.objs.size := Heap.lt_size he
    have hil : it < s.heap.objs.size := by obtain ⟨_, q, _⟩ := hit; exact Heap.lt_size q
    have p' : s.heap.IsTuple a its.toArray := p
    have hlt : i < its.toArray.size := by
      have := (List.getElem?_eq_some_iff.mp hu).1
      simpa using this
    have hh : X.A.in1.handled = none := I.ok.hd hc
    refine wpAny_pyNext_enum_itemD (Draws.tuple (prog := X.prog) (w := X.w) (A := X.A.in1) hh it a hat its.toArray) he
      ⟨hit, p'⟩ hlt hne (by simp; exact ⟨hne, hea⟩) fun y h' tk hy ho hst hT hsz hk => ?_
    have ey : y = u := by
      have q : its.toArray[i]? = some u := by simpa using hu
      rw [q] at hy
      exact (Option.some.inj hy).symm
    subst ey
    refine ⟨_, rfl, wpAny_letOwnedTupleGo_enum (s := { s with heap := h', toks := tk + 1 }) ho fun h'' he' sb => ?_⟩
    have hT2 : h''.get? s.heap.objs.size = some { cls := .type "tuple", data := .seq #[.int i tk, y] } :=
      (sb.2 _ (Nat.ne_of_gt hel)).trans hT
    have new : ObjOk X.prog X.w (upd H s.heap.objs.size (.tup [.int (i : Nat), x])) h'' s.heap.objs.size (.tup [.int (i : Nat), x]) :=
      ⟨by show 2 ≤ sizeLine; decide, [.int i tk, y], .cons ⟨_, rfl⟩ (.cons ru .nil), ⟨_, hT2, rfl, _, rfl⟩⟩
    have I1 : Inv X pins σ (upd H s.heap.objs.size (.tup [.int (i : Nat), x])) { s with heap := h'', toks := tk + 1 } :=
      I.turnedNew (ch := [e, it]) (fun b ob hb q => (sb.2 b (fun z => hb (by simp [z]))).trans
        (hk b ob (fun z => hb (by simp [z])) (fun z => hb (by simp [z])) q)) hf (Nat.le_refl _) new
    refine ⟨.ref s.heap.objs.size, _, I1, rfl, ⟨_, x, rfl, I.hok.fresh (Nat.le_refl _), rfl, fun ys hy => by
      rw [I.tuple_inj hy hq]; exact hx⟩, ⟨⟨y, ?_⟩, hst.1.at fun o q => (sb.2 it (Ne.symm hne)).trans q, hne, hat, hea⟩, fun b hb => ?_⟩
    · have e1 : ((i + 1 : Nat) : Int) = (i : Int) + 1 := by omega
      rw [e1]
      exact he'
    · have hb' : b < s.heap.objs.size := by
        have e' : b = e ∨ b = it := by simpa using hb
        rcases e' with z | z
        · rw [z]; exact hel
        · rw [z]; exact hil
      rw [upd_ne (Nat.ne_of_lt hb')]
      exact (hf b hb).1
  done := by
    intro X hP hw hK hc i pins s σ H E I hf st hg
    subst hP hw hK
    obtain ⟨⟨old, he⟩, hit, hne, hat, hea⟩ := st
    obtain ⟨xs, hq, hx⟩ := hg
    obtain ⟨its, rv, p, hz⟩ := I.tuple hq
    obtain ⟨f0, f1, f2, f3, f4, f5⟩ := hf it (by simp)
    have hl := rv.length
    exact next_enumT_end (I.ok.hd hc) he hit (show s.heap.IsTuple a its.toArray from p) (by simp; omega) fun h' eb =>
      ⟨rfl, I.turned (t' := s.toks) (fun b o hb q => eb b o hb q) f0 f1 f3 f4 f5⟩
  self := fun A i s Q E st h => let ⟨⟨_, he⟩, _⟩ := st; wpAny_pyIter_enum he h
def iEnumT (K : PySem.W.Frag) (ta : TA) : TI := fun σ H R => ta σ H fun vs H1 => ∃ a xs, vs = [.ref a] ∧ SqT K H1 a xs ∧ R (ItE K a) H1
theorem pi_enumT {X : Cx} {e : Expr} {ta : TA} {p pos tpos : Pos} {elts : List Expr} {kk : Nat} (hg : Gl X "enumerate")
    (hm : X.mg "enumerate" = none) (ha : PA X [e] ta) (hs : starEach [e] X.env = [(false, eval e X.env)] := by rfl) :
    PI X (.Tuple elts kk tpos) (.Call (.Name "enumerate" p) [e] [] pos) (iEnumT X.K ta) := by
  refine ⟨fun pins s σ H R I h => ?_⟩
  refine Call_ (ld_blt I hg hm boot_enumerate (PyProof.Rows.callWith_type1
    (thn (ha.run pos pins s σ H _ I h) fun us s1 ⟨vs, H1, I1, r1, q1⟩ => ?_) hs rfl))
  obtain ⟨a, xs, ex, hq, q⟩ := q1
  subst ex
  cases r1 with
  | cons r rr =>
    cases rr
    cases r
    obtain ⟨its, rv, p', hz⟩ := I1.tuple hq
    have pT : s1.heap.IsTuple a its.toArray := p'
    have hal : a < s1.heap.objs.size := by obtain ⟨_, q, _⟩ := pT; exact Heap.lt_size q
    refine call_enumT pT fun h' he hit hk => wpAny_pyIter_enum he ?_
    have I2 : Inv X pins σ H1 { s1 with heap := h' } := I1.kept (t' := s1.toks) hk
    refine ⟨s1.heap.objs.size + 1, [s1.heap.objs.size + 1, s1.heap.objs.size], _, _, H1, rfl, I2,
      turn_enumT a (s1.heap.objs.size + 1) s1.heap.objs.size,
      ⟨⟨.none, he⟩, hit, Nat.succ_ne_self _, Nat.ne_of_lt hal, Nat.ne_of_gt (Nat.lt_succ_of_lt hal)⟩, fun b hb => ?_, q⟩
    have hle : s1.heap.objs.size ≤ b := by
      have e' : b = s1.heap.objs.size + 1 ∨ b = s1.heap.objs.size := by simpa using hb
      rcases e' with z | z
      · rw [z]; exact Nat.le_succ _
      · rw [z]; exact Nat.le_refl _
    exact I1.fpOk hle (I1.hok.fresh hle)
end Lk

set_option Elab.async false
set_option maxRecDepth 100000
set_option maxHeartbeats 1000000
namespace Lk
open PySem L2
/-! ### loops over enumerate -/
theorem for_enumT {K : PySem.W.Frag} {a : Addr} {xs : List V} {g : TG} {tb : TS} {D : Ends} {σ : St} {H : Hp} (Pv : Nat → St → Hp → Prop) (h0 : Pv 0 σ H) (hl : ∀ i σ H, Pv i σ H → SqT K H a xs)
    (hs : ∀ i x σ H T, xs[i]? = some x → Pv i σ H → H T = none → g (.ref T) σ (upd H T (.tup [.int (i : Nat), x])) fun σ2 H2 => tb { D with nx := Pv (i + 1), ct := Pv (i + 1), bk := D.nx } σ2 H2)
    (hd : ∀ σ H, Pv xs.length σ H → D.nx σ H) :
    ∃ W : Nat → Nat → St → Hp → Prop, (∃ m, W 0 m σ H) ∧ ∀ i m σ H, W i m σ H →
      ((ItE K a).stop i H ∧ D.nx σ H) ∨ ((ItE K a).go i H ∧ ∃ N : St → Hp → Prop, (∀ σ' H', N σ' H' → ∃ m', m' < m ∧ W (i + 1) m' σ' H') ∧ ∀ x H', (ItE K a).yld i H x H' → g x σ H' fun σ2 H2 => tb { D with nx := N, ct := N, bk := D.nx } σ2 H2) := by
  refine ⟨fun i m σ H => m = xs.length - i ∧ i ≤ xs.length ∧ Pv i σ H, ⟨xs.length, by simp, Nat.zero_le _, h0⟩, ?_⟩
  rintro i m σ H ⟨rfl, hi, p⟩
  have q := hl i σ H p
  by_cases h : i < xs.length
  · refine .inr ⟨⟨xs, xs[i], q, List.getElem?_eq_getElem h⟩, Pv (i + 1), fun σ' H' n => ⟨xs.length - (i + 1), by omega, rfl, by omega, n⟩, ?_⟩
    rintro x H' ⟨T, y, rfl, hT, rfl, hy⟩
    exact hs i y σ H T (hy xs q) p hT
  · have e : i = xs.length := by omega
    subst e
    exact .inl ⟨⟨xs, q, Nat.le_refl _⟩, hd σ H p⟩
theorem for_enumL {K : PySem.W.Frag} {a : Addr} {xs : List V} {g : TG} {tb : TS} {D : Ends} {σ : St} {H : Hp} (Pv : Nat → St → Hp → Prop) (h0 : Pv 0 σ H) (hl : ∀ i σ H, Pv i σ H → SqL K H a xs)
    (hs : ∀ i x σ H T, xs[i]? = some x → Pv i σ H → H T = none → g (.ref T) σ (upd H T (.tup [.int (i : Nat), x])) fun σ2 H2 => tb { D with nx := Pv (i + 1), ct := Pv (i + 1), bk := D.nx } σ2 H2)
    (hd : ∀ σ H, Pv xs.length σ H → D.nx σ H) :
    ∃ W : Nat → Nat → St → Hp → Prop, (∃ m, W 0 m σ H) ∧ ∀ i m σ H, W i m σ H →
      ((Ite K a).stop i H ∧ D.nx σ H) ∨ ((Ite K a).go i H ∧ ∃ N : St → Hp → Prop, (∀ σ' H', N σ' H' → ∃ m', m' < m ∧ W (i + 1) m' σ' H') ∧ ∀ x H', (Ite K a).yld i H x H' → g x σ H' fun σ2 H2 => tb { D with nx := N, ct := N, bk := D.nx } σ2 H2) := by
  refine ⟨fun i m σ H => m = xs.length - i ∧ i ≤ xs.length ∧ Pv i σ H, ⟨xs.length, by simp, Nat.zero_le _, h0⟩, ?_⟩
  rintro i m σ H ⟨rfl, hi, p⟩
  have q := hl i σ H p
  by_cases h : i < xs.length
  · refine .inr ⟨⟨xs, xs[i], q, List.getElem?_eq_getElem h⟩, Pv (i + 1), fun σ' H' n => ⟨xs.length - (i + 1), by omega, rfl, by omega, n⟩, ?_⟩
    rintro x H' ⟨T, y, rfl, hT, rfl, hy⟩
    exact hs i y σ H T (hy xs q) p hT
  · have e : i = xs.length := by omega
    subst e
    exact .inl ⟨⟨xs, q, Nat.le_refl _⟩, hd σ H p⟩

/-! ### any values, as data -/
mutual
inductive Dv (H : Hp) : V → PyData → Prop
  | non : Dv H .non .none
  | bl (b : Bool) : Dv H (.bl b) (.bool b)
  | int (i : Int) : Dv H (.int i) (.int i)
  | str (x : Str) : Dv H (.str x) (.str x)
  | lst {a : Addr} {xs : List V} {ds : List PyData} : H a = some (.lst xs) → DvAll H xs ds → Dv H (.ref a) (.list ds)
  | tup {a : Addr} {xs : List V} {ds : List PyData} : H a = some (.tup xs) → DvAll H xs ds → Dv H (.ref a) (.tuple ds)
  | dct {a : Addr} : H a = some (.dK []) → Dv H (.ref a) (.dict [])
inductive DvAll (H : Hp) : List V → List PyData → Prop
  | nil : DvAll H [] []
  | cons {v : V} {vs : List V} {d : PyData} {ds : List PyData} : Dv H v d → DvAll H vs ds → DvAll H (v :: vs) (d :: ds)
end
mutual
theorem Dv.kp {S : Addr → Prop} {H H' : Hp} (hS : ∀ a, S a → H a = none) (k : KP S H H') : ∀ {v : V} {d : PyData}, Dv H v d → Dv H' v d
  | _, _, .non => .non
  | _, _, .bl b => .bl b
  | _, _, .int i => .int i
  | _, _, .str x => .str x
  | _, _, .lst h t => .lst (k.get (fun s => by rw [hS _ s] at h; cases h) h) (DvAll.kp hS k t)
  | _, _, .tup h t => .tup (k.get (fun s => by rw [hS _ s] at h; cases h) h) (DvAll.kp hS k t)
  | _, _, .dct h => .dct (k.get (fun s => by rw [hS _ s] at h; cases h) h)
theorem DvAll.kp {S : Addr → Prop} {H H' : Hp} (hS : ∀ a, S a → H a = none) (k : KP S H H') : ∀ {vs : List V} {ds : List PyData}, DvAll H vs ds → DvAll H' vs ds
  | _, _, .nil => .nil
  | _, _, .cons h t => .cons (Dv.kp hS k h) (DvAll.kp hS k t)
end
theorem Dv.same {H H' : Hp} {v : V} {d : PyData} (k : Same H H') (h : Dv H v d) : Dv H' v d := h.kp (S := fun _ => False) (fun _ x => x.elim) (KP.same k)
theorem DvAll.same {H H' : Hp} {v : List V} {d : List PyData} (k : Same H H') (h : DvAll H v d) : DvAll H' v d := h.kp (S := fun _ => False) (fun _ x => x.elim) (KP.same k)
theorem DvAll.len {H : Hp} : ∀ {vs : List V} {ds : List PyData}, DvAll H vs ds → vs.length = ds.length
  | _, _, .nil => rfl
  | _, _, .cons _ t => congrArg (· + 1) t.len
theorem DvAll.get {H : Hp} : ∀ {vs : List V} {ds : List PyData} {i : Nat} {v : V}, DvAll H vs ds → vs[i]? = some v → ∃ d, ds[i]? = some d ∧ Dv H v d
  | _, _, i, v, .nil, h => by simp at h
  | _, _, 0, v, .cons h _, e => ⟨_, rfl, by have e' := Option.some.inj e; rw [← e']; exact h⟩
  | _, _, i + 1, v, .cons _ t, e => t.get (i := i) e
def tyD : PyData → String
  | .none => "NoneType"
  | .bool _ => "bool"
  | .int _ => "int"
  | .str _ => "str"
  | .list _ => "list"
  | .tuple _ => "tuple"
  | .dict _ => "dict"
theorem Dv.ty {K : PySem.W.Frag} {H : Hp} {v : V} {d : PyData} : Dv H v d → TyX K H v (.type (tyD d))
  | .non => .base .non
  | .bl b => .base (.bl b)
  | .int i => .base (.int i)
  | .str x => .base (.str x)
  | .lst h _ => .base (.lst h)
  | .tup h _ => .base (.tup h)
  | .dct h => .base (.dK h)
/-- an integer that is no bool; from 0 on; below a limit; a sequence; an entry -/
def isI : PyData → Bool
  | .int _ => true
  | _ => false
def isN : PyData → Bool
  | .int i => decide (0 ≤ i)
  | _ => false
def isB (n : Int) : PyData → Bool
  | .int i => decide (0 ≤ i) && decide (i < n)
  | _ => false
def isS : PyData → Bool
  | .list _ | .tuple _ => true
  | _ => false
def itemsD : PyData → List PyData
  | .list ds | .tuple ds => ds
  | _ => []
def isE (A n : Int) (d : PyData) : Bool := isS d && (decide (((itemsD d).length : Int) = A) && (itemsD d).all (isB n))
abbrev s_is_integer : Stmt := top 5
abbrev N_is_integer : List Str := ["value"]
abbrev P_is_integer : List Str := ["value"]
theorem sc_is_integer : FnScope N_is_integer P_is_integer (defScope s_is_integer) := ⟨rfl, rfl, rfl, by decide +kernel, rfl, by decide +kernel, by decide +kernel⟩
abbrev s_is_number : Stmt := top 6
abbrev N_is_number : List Str := ["value"]
abbrev P_is_number : List Str := ["value"]
theorem sc_is_number : FnScope N_is_number P_is_number (defScope s_is_number) := ⟨rfl, rfl, rfl, by decide +kernel, rfl, by decide +kernel, by decide +kernel⟩
abbrev s_is_below : Stmt := top 7
abbrev N_is_below : List Str := ["value", "limit"]
abbrev P_is_below : List Str := ["value", "limit"]
theorem sc_is_below : FnScope N_is_below P_is_below (defScope s_is_below) := ⟨rfl, rfl, rfl, by decide +kernel, rfl, by decide +kernel, by decide +kernel⟩
abbrev s_is_sequence : Stmt := top 8
abbrev N_is_sequence : List Str := ["value"]
abbrev P_is_sequence : List Str := ["value"]
theorem sc_is_sequence : FnScope N_is_sequence P_is_sequence (defScope s_is_sequence) := ⟨rfl, rfl, rfl, by decide +kernel, rfl, by decide +kernel, by decide +kernel⟩
abbrev s_are_below : Stmt := top 9
abbrev N_are_below : List Str := ["values", "limit", "value"]
abbrev P_are_below : List Str := ["values", "limit"]
theorem sc_are_below : FnScope N_are_below P_are_below (defScope s_are_below) := ⟨rfl, rfl, rfl, by decide +kernel, rfl, by decide +kernel, by decide +kernel⟩
abbrev s_is_entry : Stmt := top 13
abbrev N_is_entry : List Str := ["entry", "commands", "states"]
abbrev P_is_entry : List Str := ["entry", "commands", "states"]
theorem sc_is_entry : FnScope N_is_entry P_is_entry (defScope s_is_entry) := ⟨rfl, rfl, rfl, by decide +kernel, rfl, by decide +kernel, by decide +kernel⟩
/-- a test of one value -/
def spT1 (t : PyData → Bool) : Sp := fun vs H Q _ => ∃ (x : V) (d : PyData), vs = [x] ∧ Dv H x d ∧ ∀ H', Same H H' → Q (.bl (t d)) H'
def spBelow : Sp := fun vs H Q _ => ∃ (x : V) (d : PyData) (n : Int), vs = [x, .int n] ∧ Dv H x d ∧ Q (.bl (isB n d)) H
def spAre : Sp := fun vs H Q _ => ∃ (x : V) (d : PyData) (n : Int), vs = [x, .int n] ∧ Dv H x d ∧ isS d = true ∧ (itemsD d).length ≤ 100000 ∧ ∀ H', Same H H' → Q (.bl ((itemsD d).all (isB n))) H'
def spEntry : Sp := fun vs H Q _ => ∃ (x : V) (d : PyData) (A n : Int), vs = [x, .int A, .int n] ∧ Dv H x d ∧ (itemsD d).length ≤ 100000 ∧ ∀ H', Same H H' → Q (.bl (isE A n d)) H'
theorem Same.new {H : Hp} {p : Addr} {o : HO} (h : H p = none) : Same H (upd H p o) := (KP.new (S := fun _ => False) h).toSame
section
variable {P : Program} {w : World} {K : PySem.W.Frag} {mg : Str → Option Value} {base : Heap}
theorem ok_integer {f : Addr} {fd : FuncData} (A0 : Df K mg "is_integer" s_is_integer f fd P_is_integer) (T : Txt mg) : FnOk P w K mg base CX0 1 f fd P_is_integer (spT1 isI) := by
  refine A0.F.ok sc_is_integer (fun vs H Q E h => ?_) (fun cdv A outer s H vs Q E hr h => ?_)
  · obtain ⟨x, d, rfl, _⟩ := h
    rfl
  · obtain ⟨x, d, rfl, D, k⟩ := h
    refine ⟨_, (pss_one (ps_ret (pe_and (pe_callB call_isi (by rfl) T.isinstance PyProof.Rows.boot_isinstance (pa_cons (pv 0) (pa_cons (pe_bltn (v := .ty "int") (by rfl) T.int (by decide +kernel) rfl) pa_nil)))
      (pe_one (pe_not (pe_callB call_isi (by rfl) T.isinstance PyProof.Rows.boot_isinstance (pa_cons (pv 0) (pa_cons (pe_bltn (v := .ty "bool") (by rfl) T.bool (by decide +kernel) rfl) pa_nil)))))))), ?_⟩
    have key : ∀ (b1 b2 : Bool), PySem.W.kitOne K (.type (tyD d)) (.type "int") = some b1 → PySem.W.kitOne K (.type (tyD d)) (.type "bool") = some b2 → (b1 && !b2) = isI d → tRet (tAndV (tCB (rIsi K) (tCons (tVar 0) (tCons (tC (.ty "int")) tNil))) (tNotV (tCB (rIsi K) (tCons (tVar 0) (tCons (tC (.ty "bool")) tNil))))) { nx := fun _ H' => Q .non H', rt := Q } [some x] H := by
      intro b1 b2 h1 h2 h3
      refine ⟨_, rfl, x, _, _, _, b1, rfl, .ty _, D.ty, h1, b1, rfl, ?_⟩
      cases b1 with
      | false =>
        refine iteF ?_
        rw [show (false : Bool) = isI d from h3]
        exact k _ (Same.refl _)
      | true =>
        refine iteT ⟨_, rfl, x, _, _, _, b2, rfl, .ty _, D.ty, h2, b2, rfl, ?_⟩
        rw [show (!b2) = isI d by rw [← h3, Bool.true_and]]
        exact k _ (Same.refl _)
    cases d with
    | none => exact key false false (kit_ty (a := "NoneType") (by decide +kernel)) (kit_ty (a := "NoneType") (by decide +kernel)) rfl
    | bool b => exact key true true (kit_ty (a := "bool") (by decide +kernel)) (kit_ty (a := "bool") (by decide +kernel)) rfl
    | int i => exact key true false (kit_ty (a := "int") (by decide +kernel)) (kit_ty (a := "int") (by decide +kernel)) rfl
    | str x => exact key false false (kit_ty (a := "str") (by decide +kernel)) (kit_ty (a := "str") (by decide +kernel)) rfl
    | list x => exact key false false (kit_ty (a := "list") (by decide +kernel)) (kit_ty (a := "list") (by decide +kernel)) rfl
    | tuple x => exact key false false (kit_ty (a := "tuple") (by decide +kernel)) (kit_ty (a := "tuple") (by decide +kernel)) rfl
    | dict x => exact key false false (kit_ty (a := "dict") (by decide +kernel)) (kit_ty (a := "dict") (by decide +kernel)) rfl
theorem ok_sequence {f : Addr} {fd : FuncData} (A0 : Df K mg "is_sequence" s_is_sequence f fd P_is_sequence) (T : Txt mg) : FnOk P w K mg base CX0 1 f fd P_is_sequence (spT1 isS) := by
  refine A0.F.ok sc_is_sequence (fun vs H Q E h => ?_) (fun cdv A outer s H vs Q E hr h => ?_)
  · obtain ⟨x, d, rfl, _⟩ := h
    rfl
  · obtain ⟨x, d, rfl, D, k⟩ := h
    refine ⟨_, (pss_one (ps_ret (pe_callB call_isiT (by rfl) T.isinstance PyProof.Rows.boot_isinstance (pa_cons (pv 0) (pa_cons (pe_tup (pa_cons (pe_bltn (v := .ty "list") (by rfl) T.list (by decide +kernel) rfl) (pa_cons (pe_bltn (v := .ty "tuple") (by rfl) T.tuple (by decide +kernel) rfl) pa_nil))) pa_nil))))), ?_⟩
    have key : ∀ (b1 b2 : Bool), PySem.W.kitOne K (.type (tyD d)) (.type "list") = some b1 → PySem.W.kitOne K (.type (tyD d)) (.type "tuple") = some b2 → (b1 || b2) = isS d → tRet (tCB (rIsiT K) (tCons (tVar 0) (tCons (tTup (tCons (tC (.ty "list")) (tCons (tC (.ty "tuple")) tNil))) tNil))) { nx := fun _ H' => Q .non H', rt := Q } [some x] H := by
      intro b1 b2 h1 h2 h3
      refine ⟨_, rfl, by show 2 ≤ sizeLine; decide, fun p hp => ⟨x, p, _, _, [.type "list", .type "tuple"], (b1 || b2), rfl, upd_same, .cons (.ty _) (.cons (.ty _) .nil), (D.same (Same.new hp)).ty, ?_, ?_⟩⟩
      · refine kitAny_cons h1 (fun e => ?_) (fun e => by rw [e]; rfl)
        refine kitAny_cons h2 (fun e2 => by rw [e, e2]; exact kitAny_nil) (fun e2 => by rw [e2, Bool.or_true])
      · rw [h3]
        exact k _ (Same.new hp)
    cases d with
    | none => exact key false false (kit_ty (a := "NoneType") (by decide +kernel)) (kit_ty (a := "NoneType") (by decide +kernel)) rfl
    | bool b => exact key false false (kit_ty (a := "bool") (by decide +kernel)) (kit_ty (a := "bool") (by decide +kernel)) rfl
    | int i => exact key false false (kit_ty (a := "int") (by decide +kernel)) (kit_ty (a := "int") (by decide +kernel)) rfl
    | str x => exact key false false (kit_ty (a := "str") (by decide +kernel)) (kit_ty (a := "str") (by decide +kernel)) rfl
    | list x => exact key true false (kit_ty (a := "list") (by decide +kernel)) (kit_ty (a := "list") (by decide +kernel)) rfl
    | tuple x => exact key false true (kit_ty (a := "tuple") (by decide +kernel)) (kit_ty (a := "tuple") (by decide +kernel)) rfl
    | dict x => exact key false false (kit_ty (a := "dict") (by decide +kernel)) (kit_ty (a := "dict") (by decide +kernel)) rfl
end
end Lk

set_option Elab.async false
set_option maxRecDepth 100000
set_option maxHeartbeats 1000000
namespace Lk
open PySem L2
def isBV (n : Int) : V → Bool
  | .int i => decide (0 ≤ i) && decide (i < n)
  | _ => false
theorem Dv.isBV {H : Hp} {x : V} {d : PyData} {n : Int} (h : Dv H x d) : Lk.isBV n x = isB n d := by
  cases h <;> rfl
theorem DvAll.all {H : Hp} {n : Int} : ∀ {xs : List V} {ds : List PyData}, DvAll H xs ds → (xs.map (Lk.isBV n)).all id = ds.all (isB n)
  | _, _, .nil => rfl
  | _, _, .cons h t => by
    rw [List.map_cons, List.all_cons, List.all_cons, DvAll.all t, h.isBV]
    rfl
def spBelowS : Sp := fun vs H Q _ => ∃ (x : V) (d : PyData) (n : Int), vs = [x, .int n] ∧ Dv H x d ∧ ∀ H', Same H H' → Q (.bl (isB n d)) H'
section
variable {P : Program} {w : World} {K : PySem.W.Frag} {mg : Str → Option Value} {base : Heap}
theorem ok_number {f fi : Addr} {fd fdi : FuncData} (A0 : Df K mg "is_number" s_is_number f fd P_is_number) (d_is_integer : Df K mg "is_integer" s_is_integer fi fdi P_is_integer) (T : Txt mg) : FnOk P w K mg base CX0 2 f fd P_is_number (spT1 isN) := by
  have G_is_integer : FnOk P w K mg base CX0 1 fi fdi P_is_integer (spT1 isI) := ok_integer d_is_integer T
  refine A0.F.ok sc_is_number (fun vs H Q E h => ?_) (fun cdv A outer s H vs Q E hr h => ?_)
  · obtain ⟨x, d, rfl, _⟩ := h
    rfl
  · obtain ⟨x, d, rfl, D, k⟩ := h
    refine ⟨_, (pss_one (ps_ret (pe_and (pe_call G_is_integer (hr.mono (by decide)) rfl d_is_integer.g d_is_integer.F.kp d_is_integer.b .nil pass0 (pa_cons (pv 0) pa_nil)) (pe_one (pe_cmpR op_ge (pv 0) pe_int (nomark _)))))), ?_⟩
    refine ⟨_, rfl, x, d, rfl, D, fun H1 S1 => ⟨isI d, rfl, ?_⟩⟩
    cases D with
    | int i => exact iteT ⟨_, rfl, _, _, rfl, rfl, k _ S1⟩
    | non => exact iteF (k _ S1)
    | bl b => exact iteF (k _ S1)
    | str b => exact iteF (k _ S1)
    | lst _ _ => exact iteF (k _ S1)
    | tup _ _ => exact iteF (k _ S1)
    | dct _ => exact iteF (k _ S1)
theorem ok_below {f fi fn : Addr} {fd fdi fdn : FuncData} (A0 : Df K mg "is_below" s_is_below f fd P_is_below) (d_is_number : Df K mg "is_number" s_is_number fn fdn P_is_number) (d_is_integer : Df K mg "is_integer" s_is_integer fi fdi P_is_integer) (T : Txt mg) : FnOk P w K mg base CX0 3 f fd P_is_below spBelowS := by
  have G_is_number : FnOk P w K mg base CX0 2 fn fdn P_is_number (spT1 isN) := ok_number d_is_number d_is_integer T
  refine A0.F.ok sc_is_below (fun vs H Q E h => ?_) (fun cdv A outer s H vs Q E hr h => ?_)
  · obtain ⟨x, d, n, rfl, _⟩ := h
    rfl
  · obtain ⟨x, d, n, rfl, D, k⟩ := h
    refine ⟨_, (pss_one (ps_ret (pe_and (pe_call G_is_number (hr.mono (by decide)) rfl d_is_number.g d_is_number.F.kp d_is_number.b .nil pass0 (pa_cons (pv 0) pa_nil)) (pe_one (pe_cmpR op_lt (pv 0) (pv 1) (nomark _)))))), ?_⟩
    refine ⟨_, rfl, x, d, rfl, D, fun H1 S1 => ⟨isN d, rfl, ?_⟩⟩
    cases D with
    | int i =>
      show (if decide (0 ≤ i) = true then _ else _)
      have k' : Q (.bl (decide (0 ≤ i) && decide (i < n))) H1 := k H1 S1
      by_cases h0 : 0 ≤ i
      · rw [if_pos (decide_eq_true h0)]
        refine ⟨_, rfl, _, rfl, _, _, rfl, rfl, ?_⟩
        rw [decide_eq_true h0, Bool.true_and] at k'
        exact k'
      · rw [decide_eq_false h0] at k' ⊢
        exact iteF k'
    | non => exact iteF (k _ S1)
    | bl b => exact iteF (k _ S1)
    | str b => exact iteF (k _ S1)
    | lst _ _ => exact iteF (k _ S1)
    | tup _ _ => exact iteF (k _ S1)
    | dct _ => exact iteF (k _ S1)
theorem ok_are {f fi fn fb : Addr} {fd fdi fdn fdb : FuncData} (A0 : Df K mg "are_below" s_are_below f fd P_are_below) (d_is_below : Df K mg "is_below" s_is_below fb fdb P_is_below) (d_is_number : Df K mg "is_number" s_is_number fn fdn P_is_number) (d_is_integer : Df K mg "is_integer" s_is_integer fi fdi P_is_integer) (T : Txt mg) : FnOk P w K mg base CX0 4 f fd P_are_below spAre := by
  have G_is_below : FnOk P w K mg base CX0 3 fb fdb P_is_below spBelowS := ok_below d_is_below d_is_number d_is_integer T
  refine A0.F.ok sc_are_below (fun vs H Q E h => ?_) (fun cdv A outer s H vs Q E hr h => ?_)
  · obtain ⟨x, d, n, rfl, _⟩ := h
    rfl
  · obtain ⟨x, d, n, rfl, D, hS, hl, k⟩ := h
    have fin : ∀ (xs : List V) (ds : List PyData) (H' : Hp) (q : Addr), DvAll H xs ds → itemsD d = ds → Same H H' → H' q = some (.lst (xs.map fun x => V.bl (isBV n x))) → rAll K [.ref q] H' Q := fun xs ds H' q h1 h2 h3 h4 => by
      refine ⟨q, xs.map (isBV n), rfl, SqL.of ?_, ?_⟩
      · rw [h4, List.map_map]
        rfl
      · rw [h1.all, ← h2]
        exact k _ h3
    have el : ∀ (xs : List V) (ds : List PyData) (y : V) (H2 : Hp) (Q2 : VK) (x0 : V), DvAll H xs ds → y ∈ xs → Same H H2 → (∀ H4, Same H2 H4 → Q2 (V.bl (isBV n y)) H4) → tCall spBelowS [] E0 (tCons (tVar 2) (tCons (tVar 1) tNil)) [some x0, some (.int n), some y] H2 Q2 := fun xs ds y H2 Q2 x0 h1 h2 h3 h4 => by
      obtain ⟨i, hi⟩ := List.getElem?_of_mem h2
      obtain ⟨e, _, De⟩ := h1.get hi
      refine ⟨_, rfl, _, rfl, y, e, n, rfl, De.same h3, fun H3 S3 => ?_⟩
      rw [← De.isBV]
      exact h4 _ S3
    cases D with
    | @lst a xs ds ha hx =>
      refine ⟨_, (pss_one (ps_ret (pe_callB (cr_all rfl) (by rfl) T.all PyProof.Rows.boot_all (pa_cons (pe_lc (own := [("value", 2)]) (g := gName 2) (tt := tYes) rfl sc_are_below.nd (pi_list (pv 0)) (blkOk_by (N := N_are_below) (sc := defScope s_are_below) (by decide +kernel)) (fun _ _ _ _ _ => (pg_name (i := 2) sc_are_below.nd rfl (Or.inl rfl))) (fun _ _ _ _ _ => pts_nil) (fun _ _ _ _ _ => (pe_call G_is_below (hr.mono (by decide)) rfl d_is_below.g d_is_below.F.kp d_is_below.b .nil pass0 (pa_cons (pv 2) (pa_cons (pv 1) pa_nil))))) pa_nil)))), ?_⟩
      refine ⟨_, rfl, a, rfl, ⟨_, SqL.of ha⟩, fun q hq => ?_⟩
      refine lcPL (K := K) (fun x => V.bl (isBV n x)) hq (by rw [hx.len]; exact Nat.le_trans hl (by decide)) (SqL.of ha) (fun y hy H2 S2 Q2 kQ => el xs ds y H2 Q2 _ hx hy S2 kQ) (fun H2 e2 S2 => fin xs ds H2 q hx rfl S2 e2)
    | @tup a xs ds ha hx =>
      refine ⟨_, (pss_one (ps_ret (pe_callB (cr_all rfl) (by rfl) T.all PyProof.Rows.boot_all (pa_cons (pe_lc (own := [("value", 2)]) (g := gName 2) (tt := tYes) rfl sc_are_below.nd (pi_tup (pv 0)) (blkOk_by (N := N_are_below) (sc := defScope s_are_below) (by decide +kernel)) (fun _ _ _ _ _ => (pg_name (i := 2) sc_are_below.nd rfl (Or.inl rfl))) (fun _ _ _ _ _ => pts_nil) (fun _ _ _ _ _ => (pe_call G_is_below (hr.mono (by decide)) rfl d_is_below.g d_is_below.F.kp d_is_below.b .nil pass0 (pa_cons (pv 2) (pa_cons (pv 1) pa_nil))))) pa_nil)))), ?_⟩
      refine ⟨_, rfl, a, rfl, ⟨_, SqT.of ha⟩, fun q hq => ?_⟩
      refine lcPT (K := K) (fun x => V.bl (isBV n x)) hq (by rw [hx.len]; exact Nat.le_trans hl (by decide)) (SqT.of ha) (fun y hy H2 S2 Q2 kQ => el xs ds y H2 Q2 _ hx hy S2 kQ) (fun H2 e2 S2 => fin xs ds H2 q hx rfl S2 e2)
    | non => cases hS
    | bl b => cases hS
    | int i => cases hS
    | str z => cases hS
    | dct _ => cases hS
theorem ok_entry {f fi fn fb fs fr : Addr} {fd fdi fdn fdb fds fdr : FuncData} (A0 : Df K mg "_is_entry" s_is_entry f fd P_is_entry) (d_is_sequence : Df K mg "is_sequence" s_is_sequence fs fds P_is_sequence) (d_are_below : Df K mg "are_below" s_are_below fr fdr P_are_below) (d_is_below : Df K mg "is_below" s_is_below fb fdb P_is_below) (d_is_number : Df K mg "is_number" s_is_number fn fdn P_is_number) (d_is_integer : Df K mg "is_integer" s_is_integer fi fdi P_is_integer) (T : Txt mg) : FnOk P w K mg base CX0 5 f fd P_is_entry spEntry := by
  have G_is_sequence : FnOk P w K mg base CX0 1 fs fds P_is_sequence (spT1 isS) := ok_sequence d_is_sequence T
  have G_are_below : FnOk P w K mg base CX0 4 fr fdr P_are_below spAre := ok_are d_are_below d_is_below d_is_number d_is_integer T
  refine A0.F.ok sc_is_entry (fun vs H Q E h => ?_) (fun cdv A outer s H vs Q E hr h => ?_)
  · obtain ⟨x, d, A, n, rfl, _⟩ := h
    rfl
  · obtain ⟨x, d, A, n, rfl, D, hl, k⟩ := h
    refine ⟨_, (pss_one (ps_ret (pe_and (pe_call G_is_sequence (hr.mono (by decide)) rfl d_is_sequence.g d_is_sequence.F.kp d_is_sequence.b .nil pass0 (pa_cons (pv 0) pa_nil)) (pe_and (pe_cmpR op_eq (pe_callB call_len_seq (by rfl) T.len PySem.boot_len (pa_cons (pv 0) pa_nil)) (pv 1) (nomark _)) (pe_one (pe_call G_are_below (hr.mono (by decide)) rfl d_are_below.g d_are_below.F.kp d_are_below.b .nil pass0 (pa_cons (pv 0) (pa_cons (pv 2) pa_nil)))))))), ?_⟩
    refine ⟨_, rfl, x, d, rfl, D, fun H1 S1 => ⟨isS d, rfl, ?_⟩⟩
    have D1 := D.same S1
    have main : ∀ (a : Addr) (xs : List V) (ds : List PyData), x = .ref a → (SqL K H1 a xs ∨ SqT K H1 a xs) → itemsD d = ds → xs.length = ds.length → isS d = true →
        tAndV (tOp rEq (tCB (rLn K) (tCons (tVar 0) tNil)) (tVar 1)) (tCall spAre [] E0 (tCons (tVar 0) (tCons (tVar 2) tNil))) [some x, some (.int A), some (.int n)] H1 Q := by
      intro a xs ds ex hx hi hle hs
      refine ⟨_, rfl, a, xs, by rw [ex], hx, _, rfl, rfl, _, rfl, ?_⟩
      have e : (decide (V.int ((xs.length : Nat) : Int) = V.int A)) = decide ((ds.length : Int) = A) := by
        rw [hle]
        by_cases q : (ds.length : Int) = A
        · rw [decide_eq_true q, q]
          exact decide_eq_true rfl
        · rw [decide_eq_false q]
          exact decide_eq_false fun z => q (by injection z)
      show (if decide (V.int ((xs.length : Nat) : Int) = V.int A) = true then _ else _)
      rw [e]
      have kk : ∀ H', Same H1 H' → Q (.bl (decide ((ds.length : Int) = A) && ds.all (isB n))) H' := fun H' S' => by
        have z := k H' (S1.trans S')
        unfold isE at z
        rw [hs, Bool.true_and, hi] at z
        exact z
      by_cases q : (ds.length : Int) = A
      · rw [decide_eq_true q] at kk ⊢
        refine iteT ⟨_, rfl, _, rfl, x, d, n, rfl, D1, hs, hl, fun H2 S2 => ?_⟩
        rw [hi]
        have z := kk H2 S2
        rw [Bool.true_and] at z
        exact z
      · rw [decide_eq_false q] at kk ⊢
        exact iteF (kk H1 (Same.refl _))
    cases D1 with
    | @lst a xs ds ha hx => exact iteT (main a xs ds rfl (.inl (SqL.of ha)) rfl hx.len rfl)
    | @tup a xs ds ha hx => exact iteT (main a xs ds rfl (.inr (SqT.of ha)) rfl hx.len rfl)
    | non => exact iteF (k _ S1)
    | bl b => exact iteF (k _ S1)
    | int i => exact iteF (k _ S1)
    | str z => exact iteF (k _ S1)
    | dct _ => exact iteF (k _ S1)
end
end Lk

set_option Elab.async false
set_option linter.all false
set_option maxRecDepth 100000
set_option maxHeartbeats 2000000
namespace PySem
namespace ErrX
open PySem.W PySem.Calls PyProof.Rows PySem.HandSPX
/-! ### the text of __init__ -/
def iA (p1 p2 : Pos) : Arguments := { posonlyargs := [], args := [{ arg := "self", annotation := none, pos := p1 }, { arg := "at", annotation := none, pos := p2 }], vararg := none, kwonlyargs := [], kw_defaults := [], kwarg := none, defaults := [] }
def iB (q1 q2 q3 q4 : Pos) : List Stmt := [.Assign [.Attribute (.Name "self" q1) "at" q2] (.Name "at" q3) q4]
def iS : Scope := { kind := .function, names := [(PySem.Str.ofString "self", .local), (PySem.Str.ofString "at", .local)], isGenerator := false, isCoroutine := false, more := [] }
/-- what the written part says of Low, at C, and of its __init__, at fI -/
structure ErrTxt (K : Frag) (mg : Str → Option Value) (cn : Str) (qn : Str) (C fI : Addr) : Prop where
  gC : mg cn = some (.ref C)
  cls : ∃ nm q N bs bm sn sub ab col dd k0 k1 k2 k3 k5, K.lookup C = some (excClassObj nm q C N bs bm true sn sub ab col dd k0 k1 k2 k3 k5 "ValueError.__new__") ∧ refsVE bm = true
  sa : findIn K (.ref C) "__setattr__" = some (some (.builtin "object.__setattr__"))
  ga : findIn K (.ref C) "__getattribute__" = some (some (.builtin "BaseException.__getattribute__"))
  gg : findIn K (.ref C) "__getattr__" = some none
  noN : findIn K (.ref C) "at" = some none
  iC : findIn K (.ref C) "__init__" = some (some (.ref fI))
  tC : typeIn K (.ref fI) = some (.type "function")
  kC : keepIn K (.ref C) = true
  exC : subIn K (.ref C) (.type "BaseException") = some true
  tyC : typeIn K (.ref C) = some (.type "type")
  hdC : hasDictIn K C = true
  te : exmOne K (.ref C) (.ref C) = some true
  fn : ∃ (oc : Value) (od : Option Addr) (doc pm : Value) (an : Option Addr) (cdv ct : Value) (osl : Array (Option Value)) (p1 p2 q1 q2 q3 q4 : Pos),
    K.lookup fI = some ⟨oc, od, .func (fnOf "__init__" qn (iA p1 p2) (iB q1 q2 q3 q4) iS .none .none doc pm an cdv ct), osl⟩ ∧ codeIn K cdv qn = true
theorem one_size (v : Value) : [v].length ≤ sizeLine := by
  rw [sizeLine_eq]
  exact (by decide : 1 ≤ 16777216)
theorem kept_but {K : Frag} {h h' : Heap} {x : Addr} (X : K.In h) (hx : K.lookup x = none) (k : ∀ b o, b ≠ x → h.get? b = some o → h'.get? b = some o) : K.In h' := fun a o e =>
  k a o (fun z => by rw [z, hx] at e; cases e) (X a o e)
theorem ldC {M : Model} {s : Shared} {name : Str} {scope : Scope} {L a : Addr} {cd : Value} {m : Str → Option Value} {x : Str} {pos : Pos} {v : Value} {Q : Value → Shared → Prop} {A : Around} {E : Value → Shared → Prop} (hn : s.heap.Ns L m) (hv : m x = some v) (h : Q v s)
    (hk : scope.kind = .function := by rfl) (hl : (envOfC name scope L a cd).kindOf x = some .local := by rfl) (hd : (x == ("__debug__" : Str)) = false := by decide) :
    wpAny M A (eval (.Name x pos) (envOfC name scope L a cd)) Q E s := wpAny_Name (wpAny_loadName_local hk hl hn hv h) hd
/-- what __init__ leaves of a fresh exception at x -/
structure InitEnd (h h' : Heap) (x C dx t1 : Addr) (v : Value) : Prop where
  keep : ∀ b o, b ≠ x → h.get? b = some o → h'.get? b = some o
  obj : h'.get? x = some { cls := .ref C, dict := some dx, data := .fields #[.ref t1, .none, .none, .none, .bool false, .none] }
  dbig : h.objs.size ≤ dx
  dne : dx ≠ x
  ns : h'.Ns1 dx (fun y => if y = "at" then some v else none)
/-- a made Low -/
structure OwnMade (h h' : Heap) (e C d : Addr) (v : Value) : Prop where
  keep : ∀ b o, h.get? b = some o → h'.get? b = some o
  new : h.objs.size ≤ e
  obj : ∃ oe vs, h'.get? e = some oe ∧ oe.cls = .ref C ∧ oe.dict = some d ∧ oe.data = .fields vs ∧ vs[1]? = some .none
  dbig : h.objs.size ≤ d
  dne : d ≠ e
  ns : h'.Ns1 d (fun y => if y = "at" then some v else none)
section
variable {prog : Program} {w : World} {A : Around} {E : Value → Shared → Prop} {R : Result → Shared → Prop} {s : Shared} {K : Frag} {mg : Str → Option Value} {C fI : Addr} {cn qn : Str}
theorem low_init (T : ErrTxt K mg cn qn C fI) {x t0 : Addr} {v : Value} (X : K.In s.heap) (hlim : s.heap.NoLimit) (hx : s.heap.get? x = some (excO C t0)) (hnx : K.lookup x = none) (hroom : A.depth < recursionLimit)
    (hq : ∀ h' tk dx, InitEnd s.heap h' x C dx t0 v → R (.ok (.ret .none)) { s with heap := h', toks := tk }) :
    codeAny (model prog w) A (.call (.ref fI) ⟨[.ref x, v], []⟩) R s := by
  obtain ⟨oc, od, doc, pm, an, cdv, ct, osl, p1, p2, q1, q2, q3, q4, ho, hcd⟩ := T.fn
  obtain ⟨nm, q, N, bs, bm, sn, sub, ab, col, dd, k0, k1, k2, k3, k5, hC, hbm⟩ := T.cls
  have hcl : clsIn K C = some { name := nm, bases := bs, mro := .ref C :: bm, ns := N, qualname := q, hasDict := true, slotNames := sn, subclasses := sub, abstract := ab, collection := col, hasDel := false } := by unfold clsIn; rw [hC] <;> rfl
  refine Att.call_fn (binds := [("self", .ref x), ("at", v)]) X hlim ho hcd hroom (BindsTo.of_eq (by first | rfl | with_unfolding_all rfl)) (by first | rfl | decide | with_unfolding_all rfl) (fun s₁ IC => ?_) rfl rfl rfl
  obtain ⟨h₁, tk₁, rfl⟩ := IC.toInCall.same
  have k : ∀ b o, s.heap.get? b = some o → h₁.get? b = some o := IC.toInCall.keep
  have hn := IC.toInCall.ns
  have hxL : s.heap.objs.size ≠ x := Nat.ne_of_gt (Heap.lt_size hx)
  have X₁ : K.In h₁ := X.keeps k
  have hx₁ := k _ _ hx
  -- self.by = by
  show wpAny _ _ (execs _ _) _ _ _
  refine wpAny_execs_cons (plainObj_wpAny_Assign_Attribute ?_)
  refine ldC (v := v) hn (by first | rfl | with_unfolding_all rfl | kernel_rfl) (ldC (v := .ref x) hn (by first | rfl | with_unfolding_all rfl | kernel_rfl) ?_)
  refine set_plain X₁ (ox := excO C t0) (od := none) ⟨hx₁, rfl, rfl, trivial⟩ T.sa ?_
  refine exc_osa X₁ hx₁ hcl (show refsVE (.ref C :: bm) = true from hbm) rfl T.noN (fun h₃ tk₃ dx k₃ dn dne hx₃ hn₃ => ?_)
  show wpAny _ _ (execs _ _) _ _ _
  have z : s.heap.objs.size < h₁.objs.size := hn.lt
  exact wpAny_execs_nil (hq h₃ tk₃ dx ⟨fun b o hb e => k₃ b o hb (k b o e), hx₃, Nat.le_of_lt (Nat.lt_of_lt_of_le z dn), dne, hn₃⟩)
theorem low_made (T : ErrTxt K mg cn qn C fI) {v : Value} (X : K.In s.heap) (hlim : s.heap.NoLimit) (hroom : A.depth + 1 < recursionLimit)
    (hq : ∀ h' tk e d, OwnMade s.heap h' e C d v → R (.ok (.ret (.ref e))) { s with heap := h', toks := tk }) :
    codeAny (model prog w) A (.call (.ref C) ⟨[v], []⟩) R s := by
  obtain ⟨nm, q, N, bs, bm, sn, sub, ab, col, dd, k0, k1, k2, k3, k5, hC, hbm⟩ := T.cls
  obtain ⟨hp, g, dr, tk, os⟩ := s
  have k : ∀ b o, hp.get? b = some o → ((hp.push (kdv_tup [v])).push (excO C hp.objs.size)).get? b = some o := fun b o e => Heap.get?_push_of_some _ (Heap.get?_push_of_some _ e)
  have hget : ((hp.push (kdv_tup [v])).push (excO C hp.objs.size)).get? (hp.objs.size + 1) = some (excO C hp.objs.size) := by heap_get
  have hnx : K.lookup (hp.objs.size + 1) = none := by
    cases e : K.lookup (hp.objs.size + 1) with
    | none => rfl
    | some o =>
      have z : hp.get? (hp.objs.size + 1) = some o := X _ _ e
      exact absurd (Nat.lt_of_succ_lt (Heap.lt_size z)) (Nat.lt_irrefl _)
  refine call_own F.excBase_ValueError (fun X => refsVE_contains X bm hbm) (X _ _ hC) (looks_findIn X T.iC) (fun self => bind_fn X self T.tC) (one_size v) ?_
  refine low_init (s := ⟨(hp.push (kdv_tup [v])).push (excO C hp.objs.size), g, dr, tk, os⟩) T (X.keeps k) (hlim.keeps k) hget hnx ?_ fun h' tk' dx ⟨k', hx, dn, dne, hns⟩ => ?_
  · show A.depth + 1 < recursionLimit
    exact hroom
  · have old : ∀ b o, hp.get? b = some o → h'.get? b = some o := fun b o e => k' b o (Nat.ne_of_lt (Nat.lt_succ_of_lt (Heap.lt_size e))) (k b o e)
    have z : hp.objs.size + 1 + 1 ≤ dx := by
      first
        | (simpa only [Heap.size_push] using dn)
        | exact dn
        | (have q := dn; rw [Heap.size_push, Heap.size_push] at q; exact q)
    exact ⟨rfl, hq h' tk' (hp.objs.size + 1) dx ⟨old, Nat.le_succ _, ⟨_, _, hx, rfl, rfl, rfl, rfl⟩, Nat.le_trans (Nat.le_trans (Nat.le_succ _) (Nat.le_succ _)) z, dne, hns⟩⟩
end
end ErrX
end PySem
namespace L2
open PySem PySem.Spec PyProof.Rows
theorem relO_low {v : V} {v' : Value} (r : RelV v v') (f : Str) : RelO (List.lookup f [(("at" : Str), v)]) (if f = "at" then some v' else none) := by
  by_cases hw : f = "at"
  · subst hw
    rw [if_pos rfl]
    have q : List.lookup ("at" : Str) [(("at" : Str), v)] = some v := by simp [List.lookup]
    rw [q]
    exact r
  · rw [if_neg hw]
    have qw : (f == ("at" : Str)) = false := by simpa using hw
    have q2 : List.lookup f [(("at" : Str), v)] = none := by simp [List.lookup, qw]
    rw [q2]
    trivial
section
variable {X : Cx} {C fI : Addr} {cn qn : Str}
/-- Low(e) -/
def tMkLow (C : Addr) (ta : TA) : St → Hp → XK → Prop := fun σ H Q => ta σ H fun vs H1 => ∃ v, vs = [v] ∧ ∀ d, H1 d = none → Q (.ref C) (some d) (upd H1 d (.xd [(("at" : Str), v)]))
theorem pmk_low {a : Expr} {ta : TA} {p pos : Pos} {k : Nat} (T : PySem.ErrX.ErrTxt X.K X.mg cn qn C fI) (hr : Room k X.A) (ha : PA X [a] ta) (hg : Gl X cn) (hdb : (cn == ("__debug__" : Str)) = false := by decide)
    (he : starEach (a :: []) X.env = (false, eval a X.env) :: starEach [] X.env := by rfl) (hpl : (backTo pos (starEach [] X.env)).any (·.1) = false := by rfl) :
    PMk X (.Call (.Name cn p) [a] [] pos) (tMkLow C ta) := by
  intro pins s σ H Q I h
  refine wpAny_Call_Name_kw (ld_glob I hg T.gC ?_ hdb)
  refine PySem.W.callWith_K (h₀ := X.base) I.ok.mod.kin T.kC (thn (ha.run pos pins s σ H _ I h) fun us s1 hh => ?_) he hpl
  obtain ⟨vs, H1, I1, r1, v, ev, q1⟩ := hh
  subst ev
  refine ⟨I1.kIn, ?_⟩
  cases r1 with
  | cons rv rn =>
    rename_i v' us'
    cases rn
    show wpAny _ _ (call (.ref C) [v']) _ _ _
    have hlim := I1.nolimit
    obtain ⟨hp, g, dr, tk, os⟩ := s1
    refine wpAny_call (PySem.ErrX.low_made T I1.kIn hlim (by have := hr.dp; omega) fun h' tk' e d M => ?_)
    show MkP X pins σ Q (.ref e) ⟨h', g, dr, tk', os⟩
    obtain ⟨oe, fv, hoe, hc, hd, hdat, h1⟩ := M.obj
    have hns := M.ns
    obtain ⟨G', g1, g2⟩ := restrict h' fun b => decide (b ≠ e)
    have gk : ∀ b, b ≠ e → G'.get? b = h'.get? b := fun b hb => g1 b (decide_eq_true hb)
    have ge : G'.get? e = none := g2 e (by simp)
    have old : ∀ b o, hp.get? b = some o → G'.get? b = some o := fun b o q => (gk b (Nat.ne_of_lt (Nat.lt_of_lt_of_le (Heap.lt_size q) M.new))).trans (M.keep b o q)
    have ob : ObjOk X.prog X.w (upd H1 d (.xd [(("at" : Str), v)])) G' d (.xd [(("at" : Str), v)]) :=
      ⟨_, hns.at (fun o q => (gk d M.dne).trans q), fun f => relO_low rv f⟩
    have J : Inv X pins σ (upd H1 d (.xd [(("at" : Str), v)])) ⟨G', g, dr, tk', os⟩ := I1.laid (t' := tk') old M.dbig ob
    refine ⟨e, oe, fv, ⟨G', g, dr, tk', os⟩, _, .ref C, some d, rfl, J, fun b o q => ?_, ge, hoe, ⟨hc, hd⟩, hdat, h1, ?_, rfl, I1.bare, raises_own T.exC T.tyC, q1 d (I1.hok.fresh M.dbig)⟩
    · by_cases hb : b = e
      · have q' : G'.get? b = some o := q
        rw [hb, ge] at q'; cases q'
      · exact (gk b hb).symm.trans q
    · rw [upd_ne (Ne.symm M.dne)]
      exact I1.hok.fresh M.new
/-- raise Low(e) -/
def tRaiseLow (C : Addr) (W : WX) (ta : TA) : TS := fun _ σ H => tMkLow C ta σ H fun cls d H' => W cls d σ H'
theorem ps_raiseLow {a : Expr} {ta : TA} {W : WX} {p pos pos2 : Pos} {k : Nat} (hc : X.calm = true) (T : PySem.ErrX.ErrTxt X.K X.mg cn qn C fI) (hr : Room k X.A) (tk : Takes X W) (ha : PA X [a] ta) (hg : Gl X cn) (hdb : (cn == ("__debug__" : Str)) = false := by decide)
    (he : starEach (a :: []) X.env = (false, eval a X.env) :: starEach [] X.env := by rfl) (hpl : (backTo pos (starEach [] X.env)).any (·.1) = false := by rfl) :
    PS X (.Raise (some (.Call (.Name cn p) [a] [] pos)) none pos2) (tRaiseLow C W ta) := ps_raise hc tk (pmk_low T hr ha hg hdb he hpl)
/-- low.by, low the exception that the suite holds (at a; its class cls, its dict d) -/
def tByLow (C : Addr) (a : Addr) (cls : Value) (d : Option Addr) (te : TE) : TE := fun σ H Q => te σ H fun x H1 => x = .ref a ∧ cls = .ref C ∧ ∃ (dd : Addr) (v : V), d = some dd ∧ H1 dd = some (.xd [(("at" : Str), v)]) ∧ Q v H1
theorem pe_byLow {a : Addr} {oe : Obj} {cls : Value} {d : Option Addr} {pn : List (Addr × Obj)} {e : Expr} {te : TE} {pos : Pos} (T : PySem.ErrX.ErrTxt X.K X.mg cn qn C fI) (hz : Zc cls d oe) (hf : ∃ vs, oe.data = .fields vs) (he : PE (X.suite a ((a, oe) :: pn)) e te)
    (hb : attributeBase e "at" X.env (eval e X.env) = eval e X.env := by rfl) :
    PE (X.suite a ((a, oe) :: pn)) (.Attribute e "at" pos) (tByLow C a cls d te) := by
  refine ⟨fun pins s σ H Q I h => ?_⟩
  refine attr_of hb (thn (he.run pins s σ H _ I h) fun u s1 hh => ?_)
  obtain ⟨x, H1, I1, rx, ex, ec, dd, v, ed, ea, q⟩ := hh
  subst ex
  obtain rfl : u = Value.ref a := rx
  subst ec
  subst ed
  obtain ⟨ha, _⟩ := I1.pin (a, oe) (List.mem_append_left _ List.mem_cons_self)
  obtain ⟨vs, hd⟩ := hf
  have hx : ObjOk X.prog X.w H1 s1.heap dd (.xd [(("at" : Str), v)]) := I1.hok dd _ ea
  obtain ⟨mA, hns, hr⟩ := hx
  obtain ⟨od, ho, hl⟩ := lookIn_ns hns
  have l : List.lookup ("at" : Str) [(("at" : Str), v)] = some v := by simp [List.lookup]
  obtain ⟨u, hu, ru⟩ := RelO.some_of (v := v) (o := mA "at") (by rw [← l]; exact hr "at")
  have J : PySem.W.InstAt s1.heap a oe C (some od) := ⟨ha, hz.1, by unfold PySem.W.notCls; rw [hd] <;> rfl, by rw [hz.2]; exact ho⟩
  exact HandSPX.exc_get I1.kIn J T.ga T.gg T.exC (PySem.W.findObj_own T.hdC T.noN rfl (by rw [hl, hu])) (handed_of ru) ⟨v, H1, I1.tok _, ru, q⟩
end
end L2


set_option Elab.async false
set_option linter.all false
set_option maxRecDepth 100000
set_option maxHeartbeats 4000000
namespace Lk
open PySem L2
abbrev s_Machine___init : Stmt := inClass (top 12) 0
abbrev N_Machine___init : List Str := ["self", "commands", "steps", "state", "entry"]
abbrev P_Machine___init : List Str := ["self", "commands", "steps"]
theorem sc_Machine___init : FnScope N_Machine___init P_Machine___init (defScope s_Machine___init) := ⟨rfl, rfl, rfl, by decide +kernel, rfl, by decide +kernel, by decide +kernel⟩
section
variable {K : PySem.W.Frag} {j : Nat} {te : TE} {σ : St} {H1 : Hp} {D : Addr} {Qd : Hp → Prop}
theorem lcTT {a : Addr} {xs : List V} (S : Addr → Prop) (I : Hp → Prop) (f : Nat → V → Hp → Prop) (hD : H1 D = none) (hS : ¬ S D) (hn : xs.length ≤ 1000000) (hI : I H1) (mI : ∀ H o, I H → I (upd H D o))
    (mf : ∀ i y H H', KP (fun a => S a ∨ a = D) H H' → f i y H → f i y H') (ha : ∀ H, KP S H1 H → SqT K H a xs)
    (hs : ∀ i x H acc, xs[i]? = some x → I H → KP S H1 H → H D = some (.lst acc) → ∀ Q : VK, (∀ y H4, I H4 → KP S H H4 → f i y H4 → Q y H4) → te ((wipe σ [j]).set j (some x)) H Q)
    (hd : ∀ ys H', ys.length = xs.length → (∀ i y, ys[i]? = some y → f i y H') → H' D = some (.lst ys) → I H' → KP S H1 H' → Qd H') :
    ∃ W : Nat → Nat → Hp → Prop, (∃ m, W 0 m (upd H1 D (.lst []))) ∧ ∀ i m H, W i m H →
      ((Itt K a).stop i H ∧ Qd H) ∨ ((Itt K a).go i H ∧ ∃ Nx : Hp → Prop, (∀ H', Nx H' → ∃ m', m' < m ∧ W (i + 1) m' H') ∧ ∀ x H', (Itt K a).yld i H x H' → gName j x (wipe σ [j]) H' fun σ2 H2 => wipe σ2 [j] = wipe σ [j] ∧ tYes σ2 H2 fun b H3 =>
        if b = true then te σ2 H3 fun y H4 => ∃ acc, H4 D = some (.lst acc) ∧ acc.length < sizeLine ∧ Nx (upd H4 D (.lst (acc ++ [y]))) else Nx H3) := by
  refine lc_tup (xs := xs) (Lcp S I f H1 D) (Lcp.zero hD mI hI) (fun i H _ x => ha H x.2.1) (fun i x0 H hi x => ?_) (fun H x => ?_)
  · have hi' : i < xs.length := (List.getElem?_eq_some_iff.mp hi).1
    refine ⟨wipe1 _ _ _, iteT (B := Lcp S I f H1 D (i + 1) H) ?_⟩
    obtain ⟨acc, e⟩ : ∃ acc, H D = some (.lst acc) := by
      obtain ⟨_, _, ys, e, _⟩ := x
      exact ⟨ys, e⟩
    exact hs i x0 H acc hi x.1 x.2.1 e _ fun y H4 h1 h2 h3 => x.step hD hS mI mf (by omega) h1 h2 h3
  · obtain ⟨h1, h2, ys, e, hl, hf⟩ := x
    exact hd ys H hl hf e h1 h2
end
/-! ### a machine's making, as data -/
def badC : PyData → Bool
  | .int i => decide (i ≤ 0)
  | _ => true
def badAt (A n : Int) : List PyData → Nat → Option Nat
  | [], _ => none
  | e :: r, i => if isE A n e = true then badAt A n r (i + 1) else some i
/-- the number of the refusal, if the commands are right -/
def stepsRes (A : Int) (d : PyData) : Option Int :=
  if isS d = false ∨ itemsD d = [] then some 1 else (badAt A ((itemsD d).length : Int) (itemsD d) 0).map fun i => 2 + (i : Int)
def intD : PyData → Int
  | .int i => i
  | _ => 0
def rowD (e : PyData) : List Int := (itemsD e).map intD
theorem badAt_cons {A n : Int} {e : PyData} {r : List PyData} {i : Nat} : badAt A n (e :: r) i = if isE A n e = true then badAt A n r (i + 1) else some i := rfl
theorem badAt_none {A n : Int} : ∀ {ds : List PyData} {i : Nat}, badAt A n ds i = none → ∀ e ∈ ds, isE A n e = true
  | [], _, _, e, h => nomatch h
  | d :: ds, i, h, e, he => by
    unfold badAt at h
    by_cases hE : isE A n d = true
    · rw [if_pos hE] at h
      rcases List.mem_cons.mp he with z | z
      · rw [z]
        exact hE
      · exact badAt_none h e z
    · rw [if_neg hE] at h
      cases h
theorem drop_get {α : Type} : ∀ {xs : List α} {i : Nat} {x : α}, xs[i]? = some x → xs.drop i = x :: xs.drop (i + 1)
  | [], _, _, h => by simp at h
  | y :: xs, 0, x, h => by
    have e : y = x := Option.some.inj h
    rw [e]
    rfl
  | y :: xs, i + 1, x, h => drop_get (xs := xs) (i := i) h
theorem DvAll.ints {H : Hp} {n : Int} : ∀ {xs : List V} {ds : List PyData}, DvAll H xs ds → ds.all (isB n) = true → xs = (ds.map intD).map V.int
  | _, _, .nil, _ => rfl
  | _, _, .cons (d := d) h t, e => by
    rw [List.all_cons, Bool.and_eq_true] at e
    rw [DvAll.ints t e.2]
    cases h with
    | int i => rfl
    | non => cases e.1
    | bl b => cases e.1
    | str b => cases e.1
    | lst _ _ => cases e.1
    | tup _ _ => cases e.1
    | dct _ => cases e.1
theorem entry_read {H : Hp} {y : V} {e : PyData} {A n : Int} (h : Dv H y e) (hE : isE A n e = true) : ∃ (b : Addr) (zs : Unit), y = .ref b ∧ (H b = some (.lst ((rowD e).map V.int)) ∨ H b = some (.tup ((rowD e).map V.int))) := by
  unfold isE at hE
  rw [Bool.and_eq_true, Bool.and_eq_true] at hE
  obtain ⟨h1, _, h3⟩ := hE
  cases h with
  | @lst b xs ds hb hx => exact ⟨b, (), rfl, .inl (by rw [hb, hx.ints h3] <;> rfl)⟩
  | @tup b xs ds hb hx => exact ⟨b, (), rfl, .inr (by rw [hb, hx.ints h3] <;> rfl)⟩
  | non => cases h1
  | int _ => cases h1
  | bl b => cases h1
  | str b => cases h1
  | dct _ => cases h1
/-! ### machines in the heap -/
def fldM (A n : Int) (t : Addr) : List (Str × V) := putF "steps" (.ref t) (putF "states" (.int n) (putF "commands" (.int A) []))
/-- at m a machine of the class at C with A commands and these rows -/
def MachAt (C : Addr) (H : Hp) (m : Addr) (A : Int) (us : List (Addr × List Int)) : Prop :=
  ∃ dx t, H m = some (.ins C dx (fldM A (us.length : Int) t)) ∧ H t = some (.tup (us.map fun u => V.ref u.1)) ∧ ∀ u ∈ us, H u.1 = some (.tup (u.2.map V.int))
/-- what the top says of the class -/
structure TxC (K : PySem.W.Frag) (C : Addr) : Prop where
  cl : Cls K C
  n1 : NoAttr K C "commands"
  n2 : NoAttr K C "states"
  n3 : NoAttr K C "steps"
def spInit (CM CE : Addr) : Sp := fun vs H Q E => ∃ (m dx : Addr) (x y : V) (dc ds : PyData), vs = [.ref m, x, y] ∧ H m = some (.ins CM dx []) ∧ Dv H x dc ∧ Dv H y ds ∧ (itemsD ds).length ≤ 1000 ∧ (∀ e ∈ itemsD ds, (itemsD e).length ≤ 1000) ∧
  (badC dc = true → ∀ H' d, Same H H' → H' d = none → E (.ref CE) (some d) (upd H' d (.xd [(("at" : Str), .int 0)]))) ∧
  (badC dc = false → ∀ A, dc = .int A → match stepsRes A ds with
    | some k => ∀ H' d, Same H H' → H' d = none → E (.ref CE) (some d) (upd H' d (.xd [(("at" : Str), .int k)]))
    | none => ∀ H' us, KP (fun b => b = m) H H' → MachAt CM H' m A us → us.map (·.2) = (itemsD ds).map rowD → Q .non H')
section
variable {P : Program} {w : World} {K : PySem.W.Frag} {mg : Str → Option Value} {base : Heap}
theorem ok_init {f fi fn fb fs fr fe CM CE fCE : Addr} {fd fdi fdn fdb fds fdr fde : FuncData} (F : Fun K "__init__" "Machine.__init__" s_Machine___init f fd) (d_is_entry : Df K mg "_is_entry" s_is_entry fe fde P_is_entry) (d_is_sequence : Df K mg "is_sequence" s_is_sequence fs fds P_is_sequence) (d_are_below : Df K mg "are_below" s_are_below fr fdr P_are_below) (d_is_below : Df K mg "is_below" s_is_below fb fdb P_is_below) (d_is_number : Df K mg "is_number" s_is_number fn fdn P_is_number) (d_is_integer : Df K mg "is_integer" s_is_integer fi fdi P_is_integer)
    (T : Txt mg) (TC : TxC K CM) (TE : PySem.ErrX.ErrTxt K mg "InvalidMachine" "InvalidMachine.__init__" CE fCE) : FnOk P w K mg base (L2.CX P w) 7 f fd P_Machine___init (spInit CM CE) := by
  have G_is_sequence : FnOk P w K mg base CX0 1 fs fds P_is_sequence (spT1 isS) := ok_sequence d_is_sequence T
  have G_is_number : FnOk P w K mg base CX0 2 fn fdn P_is_number (spT1 isN) := ok_number d_is_number d_is_integer T
  have G_is_entry : FnOk P w K mg base CX0 5 fe fde P_is_entry spEntry := ok_entry d_is_entry d_is_sequence d_are_below d_is_below d_is_number d_is_integer T
  refine F.okX sc_Machine___init (fun vs H Q E h => ?_) (fun cdv Ar outer s H vs Q E hr h => ?_)
  · obtain ⟨m, dx, x, y, dc, ds, rfl, _⟩ := h
    rfl
  · obtain ⟨m, dx, x, y, dc, ds, rfl, hm, Dx, Dy, hz1, hz2, kB, kG⟩ := h
    cases id Dy with
    | @lst a xs ds' ha hx => 
      refine ⟨_, (pss_cons (ps_if (PW.pt (pw_or (pt_not (pt_val (pe_call G_is_number (hr.mono (by decide)) rfl d_is_number.g d_is_number.F.kp d_is_number.b .nil pass0 (pa_cons (pv 1) pa_nil)))) (pw_or1 (pt_cmpR op_eq (pv 1) pe_int (nomark _))))) (pss_one (ps_raiseLow rfl TE hr (takes_of rfl rfl rfl rfl) (pa_cons pe_int pa_nil) (by rfl))) pss_nil)
    (pss_cons (ps_if (PW.pt (pw_or (pt_not (pt_val (pe_call G_is_sequence (hr.mono (by decide)) rfl d_is_sequence.g d_is_sequence.F.kp d_is_sequence.b .nil pass0 (pa_cons (pv 2) pa_nil)))) (pw_or1 (pt_cmpR op_eq (pe_callB call_len_seq (by rfl) T.len PySem.boot_len (pa_cons (pv 2) pa_nil)) pe_int (nomark _))))) (pss_one (ps_raiseLow rfl TE hr (takes_of rfl rfl rfl rfl) (pa_cons pe_int pa_nil) (by rfl))) pss_nil)
    (pss_cons (ps_for (passes_of rfl) rfl (pi_enum (by rfl) T.enumerate (pa_cons (pv 2) pa_nil)) (pg_tup rfl (pgs_cons (pg_name (i := 3) sc_Machine___init.nd rfl (Or.inl rfl)) (pgs_cons (pg_name (i := 4) sc_Machine___init.nd rfl (Or.inl rfl)) pgs_nil)))
      (pss_one (ps_if (pt_not (pt_val (pe_call G_is_entry (hr.mono (by decide)) rfl d_is_entry.g d_is_entry.F.kp d_is_entry.b .nil pass0 (pa_cons (pv 4) (pa_cons (pv 1) (pa_cons (pe_callB call_len_seq (by rfl) T.len PySem.boot_len (pa_cons (pv 2) pa_nil)) pa_nil)))))) (pss_one (ps_raiseLow rfl TE hr (takes_of rfl rfl rfl rfl) (pa_cons (pe_op op_add pe_int (pv 3)) pa_nil) (by rfl))) pss_nil)))
    (pss_cons (ps_fld (pv 0) (pv 1) rfl)
    (pss_cons (ps_fld (pv 0) (pe_callB call_len_seq (by rfl) T.len PySem.boot_len (pa_cons (pv 2) pa_nil)) rfl)
    (pss_one (ps_fld (pv 0) (pe_tupleOf (by rfl) T.tuple (pe_lc (own := [("entry", 4)]) (g := gName 4) (tt := tYes) (te := tThen (tVar 4) (kTup K)) rfl sc_Machine___init.nd (pi_list (pv 2)) (blkOk_by (N := N_Machine___init) (sc := defScope s_Machine___init) (by decide +kernel)) (fun _ _ _ _ _ => (pg_name (i := 4) sc_Machine___init.nd rfl (Or.inl rfl))) (fun _ _ _ _ _ => pts_nil) (fun _ _ _ _ _ => (pe_tupleOf (by rfl) T.tuple (pv 4))))) rfl))))))), ?_⟩
      have hne : a ≠ m := fun e => by
        rw [e, hm] at ha
        cases ha
      refine ⟨_, rfl, x, dc, rfl, Dx, fun H1 S1 => ⟨isN dc, rfl, ?_⟩⟩
      have hlen : xs.length = ds'.length := hx.len
      -- the first test
      by_cases hb : badC dc = true
      · have kb := kB hb
        have hN : ∀ i, dc = .int i → i ≤ 0 := fun i e => by
          rw [e] at hb
          exact of_decide_eq_true hb
        cases Dx with
        | int i =>
          have i0 := hN i rfl
          show (if (!decide (0 ≤ i)) = true then _ else _)
          by_cases h0 : 0 ≤ i
          · have e0 : i = 0 := by omega
            rw [decide_eq_true h0]
            refine iteF ⟨_, rfl, rfl, _, rfl, ?_⟩
            rw [e0]
            refine iteT ⟨_, rfl, fun q hq => kb H1 q S1 hq⟩
          · rw [decide_eq_false h0]
            exact iteT (iteT ⟨_, rfl, fun q hq => kb H1 q S1 hq⟩)
        | non => exact iteT (iteT ⟨_, rfl, fun q hq => kb H1 q S1 hq⟩)
        | bl b => exact iteT (iteT ⟨_, rfl, fun q hq => kb H1 q S1 hq⟩)
        | str b => exact iteT (iteT ⟨_, rfl, fun q hq => kb H1 q S1 hq⟩)
        | lst _ _ => exact iteT (iteT ⟨_, rfl, fun q hq => kb H1 q S1 hq⟩)
        | tup _ _ => exact iteT (iteT ⟨_, rfl, fun q hq => kb H1 q S1 hq⟩)
        | dct _ => exact iteT (iteT ⟨_, rfl, fun q hq => kb H1 q S1 hq⟩)
      obtain ⟨A, rfl, A0⟩ : ∃ A : Int, dc = .int A ∧ 0 < A := by
        cases dc with
        | int i => exact ⟨i, rfl, by have : ¬ i ≤ 0 := fun q => hb (decide_eq_true q); omega⟩
        | none => exact absurd rfl hb
        | bool _ => exact absurd rfl hb
        | str _ => exact absurd rfl hb
        | list _ => exact absurd rfl hb
        | tuple _ => exact absurd rfl hb
        | dict _ => exact absurd rfl hb
      have kG' := kG (by simpa using hb) A rfl
      obtain rfl : x = V.int A := by cases Dx; rfl
      show (if (!decide (0 ≤ A)) = true then _ else _)
      rw [decide_eq_true (show 0 ≤ A by omega)]
      refine iteF ⟨_, rfl, rfl, _, rfl, ?_⟩
      rw [decide_eq_false (show ¬ V.int A = V.int 0 from fun e => by injection e with e; omega)]
      refine iteF ?_
      -- the second test
      refine ⟨_, rfl, .ref a, _, rfl, Dy.same S1, fun H2 S2 => ⟨true, rfl, iteF ⟨_, rfl, a, xs, rfl, .inl (SqL.of ((S1.trans S2) _ _ ha)), rfl, _, rfl, ?_⟩⟩⟩
      have S12 := S1.trans S2
      cases hds : ds' with
      | nil =>
        have hx0 : xs.length = 0 := by rw [hlen, hds]; rfl
        rw [hx0]
        refine iteT ⟨_, rfl, fun q hq => ?_⟩
        have e : stepsRes A (.list ds') = some 1 := by rw [hds] <;> rfl
        rw [e] at kG'
        exact kG' H2 q S12 hq
      | cons d0 dr =>
      have hpos : 0 < ds'.length := by rw [hds]; simp
      rw [decide_eq_false (show ¬ V.int ((xs.length : Nat) : Int) = V.int 0 from fun e => by injection e with e; omega)]
      refine iteF ?_
      have eR : stepsRes A (.list ds') = (badAt A (ds'.length : Int) ds' 0).map fun i => 2 + (i : Int) := by
        unfold stepsRes
        rw [if_neg (by rw [hds]; intro z; rcases z with z | z <;> cases z)]
        rfl
      rw [eR] at kG'
      refine ⟨_, rfl, a, xs, rfl, SqL.of (S12 _ _ ha), for_enumL (K := K) (a := a) (xs := xs) (fun i σ H3 => ∃ v3 v4 : Option V, σ = [some (.ref m), some (.int A), some (.ref a), v3, v4] ∧ Same H H3 ∧ badAt A (ds'.length : Int) ds' 0 = badAt A (ds'.length : Int) (ds'.drop i) i) ⟨none, none, rfl, S12, rfl⟩ (fun i σ H3 ⟨_, _, _, S, _⟩ => SqL.of (S _ _ ha)) ?_ ?_⟩
      · rintro i y σ H3 t hi ⟨v3, v4, rfl, S3, eb⟩ ht
        obtain ⟨e, he, De⟩ := hx.get hi
        have S4 : Same H (upd H3 t (HO.tup [V.int ((i : Nat) : Int), y])) := S3.trans (Same.new ht)
        refine ⟨t, _, rfl, SqT.of upd_same, rfl, _, _, rfl, _, _, rfl, rfl, ?_⟩
        refine ⟨_, rfl, _, rfl, _, rfl, a, xs, rfl, .inl (SqL.of (S4 _ _ ha)), y, e, A, _, rfl, De.same S4, Nat.le_trans (hz2 e (mem_of_get he)) (by decide), fun H5 S5 => ⟨isE A ((xs.length : Nat) : Int) e, rfl, ?_⟩⟩
        rw [drop_get he] at eb
        rw [hlen]
        rw [badAt_cons] at eb
        by_cases hE : isE A (ds'.length : Int) e = true
        · rw [if_pos hE] at eb
          rw [hE]
          exact iteF ⟨_, _, rfl, S4.trans S5, eb⟩
        · rw [if_neg hE] at eb
          rw [show isE A (ds'.length : Int) e = false by simpa using hE]
          refine iteT ⟨_, rfl, _, _, rfl, rfl, _, rfl, fun q hq => ?_⟩
          rw [eb] at kG'
          exact kG' H5 q (S4.trans S5) hq
      · rintro σ H3 ⟨v3, v4, rfl, S3, eb⟩
        rw [hlen, List.drop_length] at eb
        rw [show badAt A (ds'.length : Int) ds' 0 = none from eb] at kG'
        have okE : ∀ e ∈ ds', isE A (ds'.length : Int) e = true := badAt_none eb
        have hm3 : H3 m = some (.ins CM dx []) := S3 _ _ hm
        -- the fields
        refine ⟨_, rfl, _, rfl, m, CM, dx, [], rfl, hm3, TC.cl, TC.n1, (by show 0 < 1000; decide), ?_⟩
        have hkm : ∀ {o : HO}, KP (fun b => b = m) H (upd H3 m o) := (KP.same (S := fun b => b = m) S3).trans (kp_upd rfl)
        refine ⟨_, rfl, a, xs, rfl, .inl (SqL.of (hkm.get hne ha)), _, rfl, m, CM, dx, _, rfl, upd_same, TC.cl, TC.n2, (by show 1 < 1000; decide), ?_⟩
        have hkm2 : ∀ {o1 o2 : HO}, KP (fun b => b = m) H (upd (upd H3 m o1) m o2) := ((KP.same (S := fun b => b = m) S3).trans (kp_upd rfl)).trans (kp_upd rfl)
        refine ⟨_, rfl, a, rfl, ⟨_, SqL.of (hkm2.get hne ha)⟩, fun D hD => ?_⟩
        have nDm : D ≠ m := fun e => by
          rw [e, upd_same] at hD
          cases hD
        have hD0 : H D = none := hkm2.free nDm hD
        refine lcL (K := K) (xs := xs) (fun _ => False) (fun H' => True) (fun i y H' => ∃ u : Addr × List Int, y = V.ref u.1 ∧ u.1 ≠ D ∧ u.1 ≠ m ∧ H' u.1 = some (.tup (u.2.map V.int)) ∧ ∃ e, ds'[i]? = some e ∧ u.2 = rowD e) hD id (by rw [hlen]; exact Nat.le_trans hz1 (by decide)) trivial (fun _ _ _ => trivial)
          (fun i y H' H'' kk ⟨u, e1, e2, e3, e4, e5⟩ => ⟨u, e1, e2, e3, kk.get (fun z => z.elim id e2) e4, e5⟩) (fun H' kk => SqL.of (kk.get id (hkm2.get hne ha))) (fun i y H4 acc hi _ k4 hDa Q4 kQ => ?_) (fun ys H4 hl4 hf4 hD4 _ k4 => ?_)
        · obtain ⟨e, he, De⟩ := hx.get hi
          have hE := okE e (mem_of_get he)
          obtain ⟨b, zs, hyb, hb1⟩ := entry_read De hE
          have bm : b ≠ m := fun q => by
            rcases hb1 with h1 | h1 <;>
            · rw [q, hm] at h1
              cases h1
          have hb4 : ∀ {o : HO}, H b = some o → H4 b = some o := fun h => k4.get id (hkm2.get bm h)
          refine ⟨_, rfl, ?_⟩
          rw [hyb]
          rcases hb1 with h1 | h1
          · refine .inl ⟨b, _, rfl, SqL.of (hb4 h1), fun q hq => kQ _ _ trivial (KP.new hq) ⟨(q, rowD e), rfl, fun z => ?_, fun z => ?_, upd_same, e, he, rfl⟩⟩
            · have z' : q = D := z
              rw [z', hDa] at hq
              cases hq
            · have z' : q = m := z
              have hm4 : H4 m = some _ := k4.get id upd_same
              rw [z', hm4] at hq
              cases hq
          · refine .inr ⟨b, _, rfl, SqT.of (hb4 h1), kQ _ _ trivial (KP.refl _ _) ⟨(b, rowD e), rfl, fun z => ?_, bm, hb4 h1, e, he, rfl⟩⟩
            have z' : b = D := z
            rw [z', hD0] at h1
            cases h1
        · obtain ⟨us, rfl, hu⟩ := collect (g := fun u : Addr × List Int => V.ref u.1) hf4
          refine .inl ⟨D, _, rfl, SqL.of hD4, fun t ht => ?_⟩
          have hm4 : H4 m = some _ := k4.get id upd_same
          have ntm : t ≠ m := fun e => by
            rw [e, hm4] at ht
            cases ht
          refine ⟨_, rfl, m, CM, dx, _, rfl, by rw [upd_ne ntm.symm]; exact hm4, TC.cl, TC.n3, (by show 2 < 1000; decide), ?_⟩
          rw [List.length_map] at hl4
          have hmem : ∀ u ∈ us, u.1 ≠ m ∧ H4 u.1 = some (.tup (u.2.map V.int)) := fun u hu' => by
            obtain ⟨i, hi⟩ := List.getElem?_of_mem hu'
            obtain ⟨_, h2, h3, _⟩ := hu i u hi
            exact ⟨h2, h3⟩
          refine kG' _ us (((hkm2.trans (k4.weak fun _ z => z.elim)).trans (KP.new ht)).trans (kp_upd rfl)) ⟨dx, t, ?_, ?_, fun u hu' => ?_⟩ ?_
          · rw [upd_same, hl4]
            rfl
          · rw [upd_ne ntm, upd_same]
          · obtain ⟨h2, h3⟩ := hmem u hu'
            rw [upd_ne h2]
            exact nk h3 ht
          · refine List.ext_getElem? fun i => ?_
            rw [List.getElem?_map]
            cases hi : us[i]? with
            | none =>
              have q : us.length ≤ i := List.getElem?_eq_none_iff.mp hi
              have q2 : ((itemsD (.list ds')).map rowD)[i]? = none := List.getElem?_eq_none_iff.mpr (by rw [List.length_map]; show ds'.length ≤ i; omega)
              exact q2.symm
            | some u =>
              obtain ⟨_, _, _, e, he, hr'⟩ := hu i u hi
              have q2 : ((itemsD (.list ds')).map rowD)[i]? = some (rowD e) := by
                rw [List.getElem?_map]
                show (ds'[i]?).map rowD = _
                rw [he] <;> rfl
              rw [q2]
              show some u.2 = some (rowD e)
              rw [hr']
    | @tup a xs ds' ha hx => 
      refine ⟨_, (pss_cons (ps_if (PW.pt (pw_or (pt_not (pt_val (pe_call G_is_number (hr.mono (by decide)) rfl d_is_number.g d_is_number.F.kp d_is_number.b .nil pass0 (pa_cons (pv 1) pa_nil)))) (pw_or1 (pt_cmpR op_eq (pv 1) pe_int (nomark _))))) (pss_one (ps_raiseLow rfl TE hr (takes_of rfl rfl rfl rfl) (pa_cons pe_int pa_nil) (by rfl))) pss_nil)
    (pss_cons (ps_if (PW.pt (pw_or (pt_not (pt_val (pe_call G_is_sequence (hr.mono (by decide)) rfl d_is_sequence.g d_is_sequence.F.kp d_is_sequence.b .nil pass0 (pa_cons (pv 2) pa_nil)))) (pw_or1 (pt_cmpR op_eq (pe_callB call_len_seq (by rfl) T.len PySem.boot_len (pa_cons (pv 2) pa_nil)) pe_int (nomark _))))) (pss_one (ps_raiseLow rfl TE hr (takes_of rfl rfl rfl rfl) (pa_cons pe_int pa_nil) (by rfl))) pss_nil)
    (pss_cons (ps_for (passes_of rfl) rfl (pi_enumT (by rfl) T.enumerate (pa_cons (pv 2) pa_nil)) (pg_tup rfl (pgs_cons (pg_name (i := 3) sc_Machine___init.nd rfl (Or.inl rfl)) (pgs_cons (pg_name (i := 4) sc_Machine___init.nd rfl (Or.inl rfl)) pgs_nil)))
      (pss_one (ps_if (pt_not (pt_val (pe_call G_is_entry (hr.mono (by decide)) rfl d_is_entry.g d_is_entry.F.kp d_is_entry.b .nil pass0 (pa_cons (pv 4) (pa_cons (pv 1) (pa_cons (pe_callB call_len_seq (by rfl) T.len PySem.boot_len (pa_cons (pv 2) pa_nil)) pa_nil)))))) (pss_one (ps_raiseLow rfl TE hr (takes_of rfl rfl rfl rfl) (pa_cons (pe_op op_add pe_int (pv 3)) pa_nil) (by rfl))) pss_nil)))
    (pss_cons (ps_fld (pv 0) (pv 1) rfl)
    (pss_cons (ps_fld (pv 0) (pe_callB call_len_seq (by rfl) T.len PySem.boot_len (pa_cons (pv 2) pa_nil)) rfl)
    (pss_one (ps_fld (pv 0) (pe_tupleOf (by rfl) T.tuple (pe_lc (own := [("entry", 4)]) (g := gName 4) (tt := tYes) (te := tThen (tVar 4) (kTup K)) rfl sc_Machine___init.nd (pi_tup (pv 2)) (blkOk_by (N := N_Machine___init) (sc := defScope s_Machine___init) (by decide +kernel)) (fun _ _ _ _ _ => (pg_name (i := 4) sc_Machine___init.nd rfl (Or.inl rfl))) (fun _ _ _ _ _ => pts_nil) (fun _ _ _ _ _ => (pe_tupleOf (by rfl) T.tuple (pv 4))))) rfl))))))), ?_⟩
      have hne : a ≠ m := fun e => by
        rw [e, hm] at ha
        cases ha
      refine ⟨_, rfl, x, dc, rfl, Dx, fun H1 S1 => ⟨isN dc, rfl, ?_⟩⟩
      have hlen : xs.length = ds'.length := hx.len
      -- the first test
      by_cases hb : badC dc = true
      · have kb := kB hb
        have hN : ∀ i, dc = .int i → i ≤ 0 := fun i e => by
          rw [e] at hb
          exact of_decide_eq_true hb
        cases Dx with
        | int i =>
          have i0 := hN i rfl
          show (if (!decide (0 ≤ i)) = true then _ else _)
          by_cases h0 : 0 ≤ i
          · have e0 : i = 0 := by omega
            rw [decide_eq_true h0]
            refine iteF ⟨_, rfl, rfl, _, rfl, ?_⟩
            rw [e0]
            refine iteT ⟨_, rfl, fun q hq => kb H1 q S1 hq⟩
          · rw [decide_eq_false h0]
            exact iteT (iteT ⟨_, rfl, fun q hq => kb H1 q S1 hq⟩)
        | non => exact iteT (iteT ⟨_, rfl, fun q hq => kb H1 q S1 hq⟩)
        | bl b => exact iteT (iteT ⟨_, rfl, fun q hq => kb H1 q S1 hq⟩)
        | str b => exact iteT (iteT ⟨_, rfl, fun q hq => kb H1 q S1 hq⟩)
        | lst _ _ => exact iteT (iteT ⟨_, rfl, fun q hq => kb H1 q S1 hq⟩)
        | tup _ _ => exact iteT (iteT ⟨_, rfl, fun q hq => kb H1 q S1 hq⟩)
        | dct _ => exact iteT (iteT ⟨_, rfl, fun q hq => kb H1 q S1 hq⟩)
      obtain ⟨A, rfl, A0⟩ : ∃ A : Int, dc = .int A ∧ 0 < A := by
        cases dc with
        | int i => exact ⟨i, rfl, by have : ¬ i ≤ 0 := fun q => hb (decide_eq_true q); omega⟩
        | none => exact absurd rfl hb
        | bool _ => exact absurd rfl hb
        | str _ => exact absurd rfl hb
        | list _ => exact absurd rfl hb
        | tuple _ => exact absurd rfl hb
        | dict _ => exact absurd rfl hb
      have kG' := kG (by simpa using hb) A rfl
      obtain rfl : x = V.int A := by cases Dx; rfl
      show (if (!decide (0 ≤ A)) = true then _ else _)
      rw [decide_eq_true (show 0 ≤ A by omega)]
      refine iteF ⟨_, rfl, rfl, _, rfl, ?_⟩
      rw [decide_eq_false (show ¬ V.int A = V.int 0 from fun e => by injection e with e; omega)]
      refine iteF ?_
      -- the second test
      refine ⟨_, rfl, .ref a, _, rfl, Dy.same S1, fun H2 S2 => ⟨true, rfl, iteF ⟨_, rfl, a, xs, rfl, .inr (SqT.of ((S1.trans S2) _ _ ha)), rfl, _, rfl, ?_⟩⟩⟩
      have S12 := S1.trans S2
      cases hds : ds' with
      | nil =>
        have hx0 : xs.length = 0 := by rw [hlen, hds]; rfl
        rw [hx0]
        refine iteT ⟨_, rfl, fun q hq => ?_⟩
        have e : stepsRes A (.tuple ds') = some 1 := by rw [hds] <;> rfl
        rw [e] at kG'
        exact kG' H2 q S12 hq
      | cons d0 dr =>
      have hpos : 0 < ds'.length := by rw [hds]; simp
      rw [decide_eq_false (show ¬ V.int ((xs.length : Nat) : Int) = V.int 0 from fun e => by injection e with e; omega)]
      refine iteF ?_
      have eR : stepsRes A (.tuple ds') = (badAt A (ds'.length : Int) ds' 0).map fun i => 2 + (i : Int) := by
        unfold stepsRes
        rw [if_neg (by rw [hds]; intro z; rcases z with z | z <;> cases z)]
        rfl
      rw [eR] at kG'
      refine ⟨_, rfl, a, xs, rfl, SqT.of (S12 _ _ ha), for_enumT (K := K) (a := a) (xs := xs) (fun i σ H3 => ∃ v3 v4 : Option V, σ = [some (.ref m), some (.int A), some (.ref a), v3, v4] ∧ Same H H3 ∧ badAt A (ds'.length : Int) ds' 0 = badAt A (ds'.length : Int) (ds'.drop i) i) ⟨none, none, rfl, S12, rfl⟩ (fun i σ H3 ⟨_, _, _, S, _⟩ => SqT.of (S _ _ ha)) ?_ ?_⟩
      · rintro i y σ H3 t hi ⟨v3, v4, rfl, S3, eb⟩ ht
        obtain ⟨e, he, De⟩ := hx.get hi
        have S4 : Same H (upd H3 t (HO.tup [V.int ((i : Nat) : Int), y])) := S3.trans (Same.new ht)
        refine ⟨t, _, rfl, SqT.of upd_same, rfl, _, _, rfl, _, _, rfl, rfl, ?_⟩
        refine ⟨_, rfl, _, rfl, _, rfl, a, xs, rfl, .inr (SqT.of (S4 _ _ ha)), y, e, A, _, rfl, De.same S4, Nat.le_trans (hz2 e (mem_of_get he)) (by decide), fun H5 S5 => ⟨isE A ((xs.length : Nat) : Int) e, rfl, ?_⟩⟩
        rw [drop_get he] at eb
        rw [hlen]
        rw [badAt_cons] at eb
        by_cases hE : isE A (ds'.length : Int) e = true
        · rw [if_pos hE] at eb
          rw [hE]
          exact iteF ⟨_, _, rfl, S4.trans S5, eb⟩
        · rw [if_neg hE] at eb
          rw [show isE A (ds'.length : Int) e = false by simpa using hE]
          refine iteT ⟨_, rfl, _, _, rfl, rfl, _, rfl, fun q hq => ?_⟩
          rw [eb] at kG'
          exact kG' H5 q (S4.trans S5) hq
      · rintro σ H3 ⟨v3, v4, rfl, S3, eb⟩
        rw [hlen, List.drop_length] at eb
        rw [show badAt A (ds'.length : Int) ds' 0 = none from eb] at kG'
        have okE : ∀ e ∈ ds', isE A (ds'.length : Int) e = true := badAt_none eb
        have hm3 : H3 m = some (.ins CM dx []) := S3 _ _ hm
        -- the fields
        refine ⟨_, rfl, _, rfl, m, CM, dx, [], rfl, hm3, TC.cl, TC.n1, (by show 0 < 1000; decide), ?_⟩
        have hkm : ∀ {o : HO}, KP (fun b => b = m) H (upd H3 m o) := (KP.same (S := fun b => b = m) S3).trans (kp_upd rfl)
        refine ⟨_, rfl, a, xs, rfl, .inr (SqT.of (hkm.get hne ha)), _, rfl, m, CM, dx, _, rfl, upd_same, TC.cl, TC.n2, (by show 1 < 1000; decide), ?_⟩
        have hkm2 : ∀ {o1 o2 : HO}, KP (fun b => b = m) H (upd (upd H3 m o1) m o2) := ((KP.same (S := fun b => b = m) S3).trans (kp_upd rfl)).trans (kp_upd rfl)
        refine ⟨_, rfl, a, rfl, ⟨_, SqT.of (hkm2.get hne ha)⟩, fun D hD => ?_⟩
        have nDm : D ≠ m := fun e => by
          rw [e, upd_same] at hD
          cases hD
        have hD0 : H D = none := hkm2.free nDm hD
        refine lcTT (K := K) (xs := xs) (fun _ => False) (fun H' => True) (fun i y H' => ∃ u : Addr × List Int, y = V.ref u.1 ∧ u.1 ≠ D ∧ u.1 ≠ m ∧ H' u.1 = some (.tup (u.2.map V.int)) ∧ ∃ e, ds'[i]? = some e ∧ u.2 = rowD e) hD id (by rw [hlen]; exact Nat.le_trans hz1 (by decide)) trivial (fun _ _ _ => trivial)
          (fun i y H' H'' kk ⟨u, e1, e2, e3, e4, e5⟩ => ⟨u, e1, e2, e3, kk.get (fun z => z.elim id e2) e4, e5⟩) (fun H' kk => SqT.of (kk.get id (hkm2.get hne ha))) (fun i y H4 acc hi _ k4 hDa Q4 kQ => ?_) (fun ys H4 hl4 hf4 hD4 _ k4 => ?_)
        · obtain ⟨e, he, De⟩ := hx.get hi
          have hE := okE e (mem_of_get he)
          obtain ⟨b, zs, hyb, hb1⟩ := entry_read De hE
          have bm : b ≠ m := fun q => by
            rcases hb1 with h1 | h1 <;>
            · rw [q, hm] at h1
              cases h1
          have hb4 : ∀ {o : HO}, H b = some o → H4 b = some o := fun h => k4.get id (hkm2.get bm h)
          refine ⟨_, rfl, ?_⟩
          rw [hyb]
          rcases hb1 with h1 | h1
          · refine .inl ⟨b, _, rfl, SqL.of (hb4 h1), fun q hq => kQ _ _ trivial (KP.new hq) ⟨(q, rowD e), rfl, fun z => ?_, fun z => ?_, upd_same, e, he, rfl⟩⟩
            · have z' : q = D := z
              rw [z', hDa] at hq
              cases hq
            · have z' : q = m := z
              have hm4 : H4 m = some _ := k4.get id upd_same
              rw [z', hm4] at hq
              cases hq
          · refine .inr ⟨b, _, rfl, SqT.of (hb4 h1), kQ _ _ trivial (KP.refl _ _) ⟨(b, rowD e), rfl, fun z => ?_, bm, hb4 h1, e, he, rfl⟩⟩
            have z' : b = D := z
            rw [z', hD0] at h1
            cases h1
        · obtain ⟨us, rfl, hu⟩ := collect (g := fun u : Addr × List Int => V.ref u.1) hf4
          refine .inl ⟨D, _, rfl, SqL.of hD4, fun t ht => ?_⟩
          have hm4 : H4 m = some _ := k4.get id upd_same
          have ntm : t ≠ m := fun e => by
            rw [e, hm4] at ht
            cases ht
          refine ⟨_, rfl, m, CM, dx, _, rfl, by rw [upd_ne ntm.symm]; exact hm4, TC.cl, TC.n3, (by show 2 < 1000; decide), ?_⟩
          rw [List.length_map] at hl4
          have hmem : ∀ u ∈ us, u.1 ≠ m ∧ H4 u.1 = some (.tup (u.2.map V.int)) := fun u hu' => by
            obtain ⟨i, hi⟩ := List.getElem?_of_mem hu'
            obtain ⟨_, h2, h3, _⟩ := hu i u hi
            exact ⟨h2, h3⟩
          refine kG' _ us (((hkm2.trans (k4.weak fun _ z => z.elim)).trans (KP.new ht)).trans (kp_upd rfl)) ⟨dx, t, ?_, ?_, fun u hu' => ?_⟩ ?_
          · rw [upd_same, hl4]
            rfl
          · rw [upd_ne ntm, upd_same]
          · obtain ⟨h2, h3⟩ := hmem u hu'
            rw [upd_ne h2]
            exact nk h3 ht
          · refine List.ext_getElem? fun i => ?_
            rw [List.getElem?_map]
            cases hi : us[i]? with
            | none =>
              have q : us.length ≤ i := List.getElem?_eq_none_iff.mp hi
              have q2 : ((itemsD (.tuple ds')).map rowD)[i]? = none := List.getElem?_eq_none_iff.mpr (by rw [List.length_map]; show ds'.length ≤ i; omega)
              exact q2.symm
            | some u =>
              obtain ⟨_, _, _, e, he, hr'⟩ := hu i u hi
              have q2 : ((itemsD (.tuple ds')).map rowD)[i]? = some (rowD e) := by
                rw [List.getElem?_map]
                show (ds'[i]?).map rowD = _
                rw [he] <;> rfl
              rw [q2]
              show some u.2 = some (rowD e)
              rw [hr']
    | non => 
      refine ⟨_, (pss_cons (ps_if (PW.pt (pw_or (pt_not (pt_val (pe_call G_is_number (hr.mono (by decide)) rfl d_is_number.g d_is_number.F.kp d_is_number.b .nil pass0 (pa_cons (pv 1) pa_nil)))) (pw_or1 (pt_cmpR op_eq (pv 1) pe_int (nomark _))))) (pss_one (ps_raiseLow rfl TE hr (takes_of rfl rfl rfl rfl) (pa_cons pe_int pa_nil) (by rfl))) pss_nil)
    (pss_cons (ps_if (PW.pt (pw_or (pt_not (pt_val (pe_call G_is_sequence (hr.mono (by decide)) rfl d_is_sequence.g d_is_sequence.F.kp d_is_sequence.b .nil pass0 (pa_cons (pv 2) pa_nil)))) (pw_or1 (pt_cmpR op_eq (pe_callB call_len_seq (by rfl) T.len PySem.boot_len (pa_cons (pv 2) pa_nil)) pe_int (nomark _))))) (pss_one (ps_raiseLow rfl TE hr (takes_of rfl rfl rfl rfl) (pa_cons pe_int pa_nil) (by rfl))) pss_nil)
    (pss_cons (ps_for (passes_of rfl) rfl (pi_enum (by rfl) T.enumerate (pa_cons (pv 2) pa_nil)) (pg_tup rfl (pgs_cons (pg_name (i := 3) sc_Machine___init.nd rfl (Or.inl rfl)) (pgs_cons (pg_name (i := 4) sc_Machine___init.nd rfl (Or.inl rfl)) pgs_nil)))
      (pss_one (ps_if (pt_not (pt_val (pe_call G_is_entry (hr.mono (by decide)) rfl d_is_entry.g d_is_entry.F.kp d_is_entry.b .nil pass0 (pa_cons (pv 4) (pa_cons (pv 1) (pa_cons (pe_callB call_len_seq (by rfl) T.len PySem.boot_len (pa_cons (pv 2) pa_nil)) pa_nil)))))) (pss_one (ps_raiseLow rfl TE hr (takes_of rfl rfl rfl rfl) (pa_cons (pe_op op_add pe_int (pv 3)) pa_nil) (by rfl))) pss_nil)))
    (pss_cons (ps_fld (pv 0) (pv 1) rfl)
    (pss_cons (ps_fld (pv 0) (pe_callB call_len_seq (by rfl) T.len PySem.boot_len (pa_cons (pv 2) pa_nil)) rfl)
    (pss_one (ps_fld (pv 0) (pe_tupleOf (by rfl) T.tuple (pe_lc (own := [("entry", 4)]) (g := gName 4) (tt := tYes) (te := tThen (tVar 4) (kTup K)) rfl sc_Machine___init.nd (pi_list (pv 2)) (blkOk_by (N := N_Machine___init) (sc := defScope s_Machine___init) (by decide +kernel)) (fun _ _ _ _ _ => (pg_name (i := 4) sc_Machine___init.nd rfl (Or.inl rfl))) (fun _ _ _ _ _ => pts_nil) (fun _ _ _ _ _ => (pe_tupleOf (by rfl) T.tuple (pv 4))))) rfl))))))), ?_⟩
      refine ⟨_, rfl, x, dc, rfl, Dx, fun H1 S1 => ⟨isN dc, rfl, ?_⟩⟩
      -- the first test
      by_cases hb : badC dc = true
      · have kb := kB hb
        have hN : ∀ i, dc = .int i → i ≤ 0 := fun i e => by
          rw [e] at hb
          exact of_decide_eq_true hb
        cases Dx with
        | int i =>
          have i0 := hN i rfl
          show (if (!decide (0 ≤ i)) = true then _ else _)
          by_cases h0 : 0 ≤ i
          · have e0 : i = 0 := by omega
            rw [decide_eq_true h0]
            refine iteF ⟨_, rfl, rfl, _, rfl, ?_⟩
            rw [e0]
            refine iteT ⟨_, rfl, fun q hq => kb H1 q S1 hq⟩
          · rw [decide_eq_false h0]
            exact iteT (iteT ⟨_, rfl, fun q hq => kb H1 q S1 hq⟩)
        | non => exact iteT (iteT ⟨_, rfl, fun q hq => kb H1 q S1 hq⟩)
        | bl b => exact iteT (iteT ⟨_, rfl, fun q hq => kb H1 q S1 hq⟩)
        | str b => exact iteT (iteT ⟨_, rfl, fun q hq => kb H1 q S1 hq⟩)
        | lst _ _ => exact iteT (iteT ⟨_, rfl, fun q hq => kb H1 q S1 hq⟩)
        | tup _ _ => exact iteT (iteT ⟨_, rfl, fun q hq => kb H1 q S1 hq⟩)
        | dct _ => exact iteT (iteT ⟨_, rfl, fun q hq => kb H1 q S1 hq⟩)
      obtain ⟨A, rfl, A0⟩ : ∃ A : Int, dc = .int A ∧ 0 < A := by
        cases dc with
        | int i => exact ⟨i, rfl, by have : ¬ i ≤ 0 := fun q => hb (decide_eq_true q); omega⟩
        | none => exact absurd rfl hb
        | bool _ => exact absurd rfl hb
        | str _ => exact absurd rfl hb
        | list _ => exact absurd rfl hb
        | tuple _ => exact absurd rfl hb
        | dict _ => exact absurd rfl hb
      have kG' := kG (by simpa using hb) A rfl
      obtain rfl : x = V.int A := by cases Dx; rfl
      show (if (!decide (0 ≤ A)) = true then _ else _)
      rw [decide_eq_true (show 0 ≤ A by omega)]
      refine iteF ⟨_, rfl, rfl, _, rfl, ?_⟩
      rw [decide_eq_false (show ¬ V.int A = V.int 0 from fun e => by injection e with e; omega)]
      refine iteF ?_
      refine ⟨_, rfl, _, _, rfl, Dy.same S1, fun H2 S2 => ⟨false, rfl, iteT (iteT ⟨_, rfl, fun q hq => ?_⟩)⟩⟩
      have e : stepsRes A .none = some 1 := rfl
      rw [e] at kG'
      exact kG' H2 q (S1.trans S2) hq
    | bl b => 
      refine ⟨_, (pss_cons (ps_if (PW.pt (pw_or (pt_not (pt_val (pe_call G_is_number (hr.mono (by decide)) rfl d_is_number.g d_is_number.F.kp d_is_number.b .nil pass0 (pa_cons (pv 1) pa_nil)))) (pw_or1 (pt_cmpR op_eq (pv 1) pe_int (nomark _))))) (pss_one (ps_raiseLow rfl TE hr (takes_of rfl rfl rfl rfl) (pa_cons pe_int pa_nil) (by rfl))) pss_nil)
    (pss_cons (ps_if (PW.pt (pw_or (pt_not (pt_val (pe_call G_is_sequence (hr.mono (by decide)) rfl d_is_sequence.g d_is_sequence.F.kp d_is_sequence.b .nil pass0 (pa_cons (pv 2) pa_nil)))) (pw_or1 (pt_cmpR op_eq (pe_callB call_len_seq (by rfl) T.len PySem.boot_len (pa_cons (pv 2) pa_nil)) pe_int (nomark _))))) (pss_one (ps_raiseLow rfl TE hr (takes_of rfl rfl rfl rfl) (pa_cons pe_int pa_nil) (by rfl))) pss_nil)
    (pss_cons (ps_for (passes_of rfl) rfl (pi_enum (by rfl) T.enumerate (pa_cons (pv 2) pa_nil)) (pg_tup rfl (pgs_cons (pg_name (i := 3) sc_Machine___init.nd rfl (Or.inl rfl)) (pgs_cons (pg_name (i := 4) sc_Machine___init.nd rfl (Or.inl rfl)) pgs_nil)))
      (pss_one (ps_if (pt_not (pt_val (pe_call G_is_entry (hr.mono (by decide)) rfl d_is_entry.g d_is_entry.F.kp d_is_entry.b .nil pass0 (pa_cons (pv 4) (pa_cons (pv 1) (pa_cons (pe_callB call_len_seq (by rfl) T.len PySem.boot_len (pa_cons (pv 2) pa_nil)) pa_nil)))))) (pss_one (ps_raiseLow rfl TE hr (takes_of rfl rfl rfl rfl) (pa_cons (pe_op op_add pe_int (pv 3)) pa_nil) (by rfl))) pss_nil)))
    (pss_cons (ps_fld (pv 0) (pv 1) rfl)
    (pss_cons (ps_fld (pv 0) (pe_callB call_len_seq (by rfl) T.len PySem.boot_len (pa_cons (pv 2) pa_nil)) rfl)
    (pss_one (ps_fld (pv 0) (pe_tupleOf (by rfl) T.tuple (pe_lc (own := [("entry", 4)]) (g := gName 4) (tt := tYes) (te := tThen (tVar 4) (kTup K)) rfl sc_Machine___init.nd (pi_list (pv 2)) (blkOk_by (N := N_Machine___init) (sc := defScope s_Machine___init) (by decide +kernel)) (fun _ _ _ _ _ => (pg_name (i := 4) sc_Machine___init.nd rfl (Or.inl rfl))) (fun _ _ _ _ _ => pts_nil) (fun _ _ _ _ _ => (pe_tupleOf (by rfl) T.tuple (pv 4))))) rfl))))))), ?_⟩
      refine ⟨_, rfl, x, dc, rfl, Dx, fun H1 S1 => ⟨isN dc, rfl, ?_⟩⟩
      -- the first test
      by_cases hb : badC dc = true
      · have kb := kB hb
        have hN : ∀ i, dc = .int i → i ≤ 0 := fun i e => by
          rw [e] at hb
          exact of_decide_eq_true hb
        cases Dx with
        | int i =>
          have i0 := hN i rfl
          show (if (!decide (0 ≤ i)) = true then _ else _)
          by_cases h0 : 0 ≤ i
          · have e0 : i = 0 := by omega
            rw [decide_eq_true h0]
            refine iteF ⟨_, rfl, rfl, _, rfl, ?_⟩
            rw [e0]
            refine iteT ⟨_, rfl, fun q hq => kb H1 q S1 hq⟩
          · rw [decide_eq_false h0]
            exact iteT (iteT ⟨_, rfl, fun q hq => kb H1 q S1 hq⟩)
        | non => exact iteT (iteT ⟨_, rfl, fun q hq => kb H1 q S1 hq⟩)
        | bl b => exact iteT (iteT ⟨_, rfl, fun q hq => kb H1 q S1 hq⟩)
        | str b => exact iteT (iteT ⟨_, rfl, fun q hq => kb H1 q S1 hq⟩)
        | lst _ _ => exact iteT (iteT ⟨_, rfl, fun q hq => kb H1 q S1 hq⟩)
        | tup _ _ => exact iteT (iteT ⟨_, rfl, fun q hq => kb H1 q S1 hq⟩)
        | dct _ => exact iteT (iteT ⟨_, rfl, fun q hq => kb H1 q S1 hq⟩)
      obtain ⟨A, rfl, A0⟩ : ∃ A : Int, dc = .int A ∧ 0 < A := by
        cases dc with
        | int i => exact ⟨i, rfl, by have : ¬ i ≤ 0 := fun q => hb (decide_eq_true q); omega⟩
        | none => exact absurd rfl hb
        | bool _ => exact absurd rfl hb
        | str _ => exact absurd rfl hb
        | list _ => exact absurd rfl hb
        | tuple _ => exact absurd rfl hb
        | dict _ => exact absurd rfl hb
      have kG' := kG (by simpa using hb) A rfl
      obtain rfl : x = V.int A := by cases Dx; rfl
      show (if (!decide (0 ≤ A)) = true then _ else _)
      rw [decide_eq_true (show 0 ≤ A by omega)]
      refine iteF ⟨_, rfl, rfl, _, rfl, ?_⟩
      rw [decide_eq_false (show ¬ V.int A = V.int 0 from fun e => by injection e with e; omega)]
      refine iteF ?_
      refine ⟨_, rfl, _, _, rfl, Dy.same S1, fun H2 S2 => ⟨false, rfl, iteT (iteT ⟨_, rfl, fun q hq => ?_⟩)⟩⟩
      have e : stepsRes A (.bool b) = some 1 := rfl
      rw [e] at kG'
      exact kG' H2 q (S1.trans S2) hq
    | int i0 => 
      refine ⟨_, (pss_cons (ps_if (PW.pt (pw_or (pt_not (pt_val (pe_call G_is_number (hr.mono (by decide)) rfl d_is_number.g d_is_number.F.kp d_is_number.b .nil pass0 (pa_cons (pv 1) pa_nil)))) (pw_or1 (pt_cmpR op_eq (pv 1) pe_int (nomark _))))) (pss_one (ps_raiseLow rfl TE hr (takes_of rfl rfl rfl rfl) (pa_cons pe_int pa_nil) (by rfl))) pss_nil)
    (pss_cons (ps_if (PW.pt (pw_or (pt_not (pt_val (pe_call G_is_sequence (hr.mono (by decide)) rfl d_is_sequence.g d_is_sequence.F.kp d_is_sequence.b .nil pass0 (pa_cons (pv 2) pa_nil)))) (pw_or1 (pt_cmpR op_eq (pe_callB call_len_seq (by rfl) T.len PySem.boot_len (pa_cons (pv 2) pa_nil)) pe_int (nomark _))))) (pss_one (ps_raiseLow rfl TE hr (takes_of rfl rfl rfl rfl) (pa_cons pe_int pa_nil) (by rfl))) pss_nil)
    (pss_cons (ps_for (passes_of rfl) rfl (pi_enum (by rfl) T.enumerate (pa_cons (pv 2) pa_nil)) (pg_tup rfl (pgs_cons (pg_name (i := 3) sc_Machine___init.nd rfl (Or.inl rfl)) (pgs_cons (pg_name (i := 4) sc_Machine___init.nd rfl (Or.inl rfl)) pgs_nil)))
      (pss_one (ps_if (pt_not (pt_val (pe_call G_is_entry (hr.mono (by decide)) rfl d_is_entry.g d_is_entry.F.kp d_is_entry.b .nil pass0 (pa_cons (pv 4) (pa_cons (pv 1) (pa_cons (pe_callB call_len_seq (by rfl) T.len PySem.boot_len (pa_cons (pv 2) pa_nil)) pa_nil)))))) (pss_one (ps_raiseLow rfl TE hr (takes_of rfl rfl rfl rfl) (pa_cons (pe_op op_add pe_int (pv 3)) pa_nil) (by rfl))) pss_nil)))
    (pss_cons (ps_fld (pv 0) (pv 1) rfl)
    (pss_cons (ps_fld (pv 0) (pe_callB call_len_seq (by rfl) T.len PySem.boot_len (pa_cons (pv 2) pa_nil)) rfl)
    (pss_one (ps_fld (pv 0) (pe_tupleOf (by rfl) T.tuple (pe_lc (own := [("entry", 4)]) (g := gName 4) (tt := tYes) (te := tThen (tVar 4) (kTup K)) rfl sc_Machine___init.nd (pi_list (pv 2)) (blkOk_by (N := N_Machine___init) (sc := defScope s_Machine___init) (by decide +kernel)) (fun _ _ _ _ _ => (pg_name (i := 4) sc_Machine___init.nd rfl (Or.inl rfl))) (fun _ _ _ _ _ => pts_nil) (fun _ _ _ _ _ => (pe_tupleOf (by rfl) T.tuple (pv 4))))) rfl))))))), ?_⟩
      refine ⟨_, rfl, x, dc, rfl, Dx, fun H1 S1 => ⟨isN dc, rfl, ?_⟩⟩
      -- the first test
      by_cases hb : badC dc = true
      · have kb := kB hb
        have hN : ∀ i, dc = .int i → i ≤ 0 := fun i e => by
          rw [e] at hb
          exact of_decide_eq_true hb
        cases Dx with
        | int i =>
          have i0 := hN i rfl
          show (if (!decide (0 ≤ i)) = true then _ else _)
          by_cases h0 : 0 ≤ i
          · have e0 : i = 0 := by omega
            rw [decide_eq_true h0]
            refine iteF ⟨_, rfl, rfl, _, rfl, ?_⟩
            rw [e0]
            refine iteT ⟨_, rfl, fun q hq => kb H1 q S1 hq⟩
          · rw [decide_eq_false h0]
            exact iteT (iteT ⟨_, rfl, fun q hq => kb H1 q S1 hq⟩)
        | non => exact iteT (iteT ⟨_, rfl, fun q hq => kb H1 q S1 hq⟩)
        | bl b => exact iteT (iteT ⟨_, rfl, fun q hq => kb H1 q S1 hq⟩)
        | str b => exact iteT (iteT ⟨_, rfl, fun q hq => kb H1 q S1 hq⟩)
        | lst _ _ => exact iteT (iteT ⟨_, rfl, fun q hq => kb H1 q S1 hq⟩)
        | tup _ _ => exact iteT (iteT ⟨_, rfl, fun q hq => kb H1 q S1 hq⟩)
        | dct _ => exact iteT (iteT ⟨_, rfl, fun q hq => kb H1 q S1 hq⟩)
      obtain ⟨A, rfl, A0⟩ : ∃ A : Int, dc = .int A ∧ 0 < A := by
        cases dc with
        | int i => exact ⟨i, rfl, by have : ¬ i ≤ 0 := fun q => hb (decide_eq_true q); omega⟩
        | none => exact absurd rfl hb
        | bool _ => exact absurd rfl hb
        | str _ => exact absurd rfl hb
        | list _ => exact absurd rfl hb
        | tuple _ => exact absurd rfl hb
        | dict _ => exact absurd rfl hb
      have kG' := kG (by simpa using hb) A rfl
      obtain rfl : x = V.int A := by cases Dx; rfl
      show (if (!decide (0 ≤ A)) = true then _ else _)
      rw [decide_eq_true (show 0 ≤ A by omega)]
      refine iteF ⟨_, rfl, rfl, _, rfl, ?_⟩
      rw [decide_eq_false (show ¬ V.int A = V.int 0 from fun e => by injection e with e; omega)]
      refine iteF ?_
      refine ⟨_, rfl, _, _, rfl, Dy.same S1, fun H2 S2 => ⟨false, rfl, iteT (iteT ⟨_, rfl, fun q hq => ?_⟩)⟩⟩
      have e : stepsRes A (.int i0) = some 1 := rfl
      rw [e] at kG'
      exact kG' H2 q (S1.trans S2) hq
    | str z => 
      refine ⟨_, (pss_cons (ps_if (PW.pt (pw_or (pt_not (pt_val (pe_call G_is_number (hr.mono (by decide)) rfl d_is_number.g d_is_number.F.kp d_is_number.b .nil pass0 (pa_cons (pv 1) pa_nil)))) (pw_or1 (pt_cmpR op_eq (pv 1) pe_int (nomark _))))) (pss_one (ps_raiseLow rfl TE hr (takes_of rfl rfl rfl rfl) (pa_cons pe_int pa_nil) (by rfl))) pss_nil)
    (pss_cons (ps_if (PW.pt (pw_or (pt_not (pt_val (pe_call G_is_sequence (hr.mono (by decide)) rfl d_is_sequence.g d_is_sequence.F.kp d_is_sequence.b .nil pass0 (pa_cons (pv 2) pa_nil)))) (pw_or1 (pt_cmpR op_eq (pe_callB call_len_seq (by rfl) T.len PySem.boot_len (pa_cons (pv 2) pa_nil)) pe_int (nomark _))))) (pss_one (ps_raiseLow rfl TE hr (takes_of rfl rfl rfl rfl) (pa_cons pe_int pa_nil) (by rfl))) pss_nil)
    (pss_cons (ps_for (passes_of rfl) rfl (pi_enum (by rfl) T.enumerate (pa_cons (pv 2) pa_nil)) (pg_tup rfl (pgs_cons (pg_name (i := 3) sc_Machine___init.nd rfl (Or.inl rfl)) (pgs_cons (pg_name (i := 4) sc_Machine___init.nd rfl (Or.inl rfl)) pgs_nil)))
      (pss_one (ps_if (pt_not (pt_val (pe_call G_is_entry (hr.mono (by decide)) rfl d_is_entry.g d_is_entry.F.kp d_is_entry.b .nil pass0 (pa_cons (pv 4) (pa_cons (pv 1) (pa_cons (pe_callB call_len_seq (by rfl) T.len PySem.boot_len (pa_cons (pv 2) pa_nil)) pa_nil)))))) (pss_one (ps_raiseLow rfl TE hr (takes_of rfl rfl rfl rfl) (pa_cons (pe_op op_add pe_int (pv 3)) pa_nil) (by rfl))) pss_nil)))
    (pss_cons (ps_fld (pv 0) (pv 1) rfl)
    (pss_cons (ps_fld (pv 0) (pe_callB call_len_seq (by rfl) T.len PySem.boot_len (pa_cons (pv 2) pa_nil)) rfl)
    (pss_one (ps_fld (pv 0) (pe_tupleOf (by rfl) T.tuple (pe_lc (own := [("entry", 4)]) (g := gName 4) (tt := tYes) (te := tThen (tVar 4) (kTup K)) rfl sc_Machine___init.nd (pi_list (pv 2)) (blkOk_by (N := N_Machine___init) (sc := defScope s_Machine___init) (by decide +kernel)) (fun _ _ _ _ _ => (pg_name (i := 4) sc_Machine___init.nd rfl (Or.inl rfl))) (fun _ _ _ _ _ => pts_nil) (fun _ _ _ _ _ => (pe_tupleOf (by rfl) T.tuple (pv 4))))) rfl))))))), ?_⟩
      refine ⟨_, rfl, x, dc, rfl, Dx, fun H1 S1 => ⟨isN dc, rfl, ?_⟩⟩
      -- the first test
      by_cases hb : badC dc = true
      · have kb := kB hb
        have hN : ∀ i, dc = .int i → i ≤ 0 := fun i e => by
          rw [e] at hb
          exact of_decide_eq_true hb
        cases Dx with
        | int i =>
          have i0 := hN i rfl
          show (if (!decide (0 ≤ i)) = true then _ else _)
          by_cases h0 : 0 ≤ i
          · have e0 : i = 0 := by omega
            rw [decide_eq_true h0]
            refine iteF ⟨_, rfl, rfl, _, rfl, ?_⟩
            rw [e0]
            refine iteT ⟨_, rfl, fun q hq => kb H1 q S1 hq⟩
          · rw [decide_eq_false h0]
            exact iteT (iteT ⟨_, rfl, fun q hq => kb H1 q S1 hq⟩)
        | non => exact iteT (iteT ⟨_, rfl, fun q hq => kb H1 q S1 hq⟩)
        | bl b => exact iteT (iteT ⟨_, rfl, fun q hq => kb H1 q S1 hq⟩)
        | str b => exact iteT (iteT ⟨_, rfl, fun q hq => kb H1 q S1 hq⟩)
        | lst _ _ => exact iteT (iteT ⟨_, rfl, fun q hq => kb H1 q S1 hq⟩)
        | tup _ _ => exact iteT (iteT ⟨_, rfl, fun q hq => kb H1 q S1 hq⟩)
        | dct _ => exact iteT (iteT ⟨_, rfl, fun q hq => kb H1 q S1 hq⟩)
      obtain ⟨A, rfl, A0⟩ : ∃ A : Int, dc = .int A ∧ 0 < A := by
        cases dc with
        | int i => exact ⟨i, rfl, by have : ¬ i ≤ 0 := fun q => hb (decide_eq_true q); omega⟩
        | none => exact absurd rfl hb
        | bool _ => exact absurd rfl hb
        | str _ => exact absurd rfl hb
        | list _ => exact absurd rfl hb
        | tuple _ => exact absurd rfl hb
        | dict _ => exact absurd rfl hb
      have kG' := kG (by simpa using hb) A rfl
      obtain rfl : x = V.int A := by cases Dx; rfl
      show (if (!decide (0 ≤ A)) = true then _ else _)
      rw [decide_eq_true (show 0 ≤ A by omega)]
      refine iteF ⟨_, rfl, rfl, _, rfl, ?_⟩
      rw [decide_eq_false (show ¬ V.int A = V.int 0 from fun e => by injection e with e; omega)]
      refine iteF ?_
      refine ⟨_, rfl, _, _, rfl, Dy.same S1, fun H2 S2 => ⟨false, rfl, iteT (iteT ⟨_, rfl, fun q hq => ?_⟩)⟩⟩
      have e : stepsRes A (.str z) = some 1 := rfl
      rw [e] at kG'
      exact kG' H2 q (S1.trans S2) hq
    | dct _ => 
      refine ⟨_, (pss_cons (ps_if (PW.pt (pw_or (pt_not (pt_val (pe_call G_is_number (hr.mono (by decide)) rfl d_is_number.g d_is_number.F.kp d_is_number.b .nil pass0 (pa_cons (pv 1) pa_nil)))) (pw_or1 (pt_cmpR op_eq (pv 1) pe_int (nomark _))))) (pss_one (ps_raiseLow rfl TE hr (takes_of rfl rfl rfl rfl) (pa_cons pe_int pa_nil) (by rfl))) pss_nil)
    (pss_cons (ps_if (PW.pt (pw_or (pt_not (pt_val (pe_call G_is_sequence (hr.mono (by decide)) rfl d_is_sequence.g d_is_sequence.F.kp d_is_sequence.b .nil pass0 (pa_cons (pv 2) pa_nil)))) (pw_or1 (pt_cmpR op_eq (pe_callB call_len_seq (by rfl) T.len PySem.boot_len (pa_cons (pv 2) pa_nil)) pe_int (nomark _))))) (pss_one (ps_raiseLow rfl TE hr (takes_of rfl rfl rfl rfl) (pa_cons pe_int pa_nil) (by rfl))) pss_nil)
    (pss_cons (ps_for (passes_of rfl) rfl (pi_enum (by rfl) T.enumerate (pa_cons (pv 2) pa_nil)) (pg_tup rfl (pgs_cons (pg_name (i := 3) sc_Machine___init.nd rfl (Or.inl rfl)) (pgs_cons (pg_name (i := 4) sc_Machine___init.nd rfl (Or.inl rfl)) pgs_nil)))
      (pss_one (ps_if (pt_not (pt_val (pe_call G_is_entry (hr.mono (by decide)) rfl d_is_entry.g d_is_entry.F.kp d_is_entry.b .nil pass0 (pa_cons (pv 4) (pa_cons (pv 1) (pa_cons (pe_callB call_len_seq (by rfl) T.len PySem.boot_len (pa_cons (pv 2) pa_nil)) pa_nil)))))) (pss_one (ps_raiseLow rfl TE hr (takes_of rfl rfl rfl rfl) (pa_cons (pe_op op_add pe_int (pv 3)) pa_nil) (by rfl))) pss_nil)))
    (pss_cons (ps_fld (pv 0) (pv 1) rfl)
    (pss_cons (ps_fld (pv 0) (pe_callB call_len_seq (by rfl) T.len PySem.boot_len (pa_cons (pv 2) pa_nil)) rfl)
    (pss_one (ps_fld (pv 0) (pe_tupleOf (by rfl) T.tuple (pe_lc (own := [("entry", 4)]) (g := gName 4) (tt := tYes) (te := tThen (tVar 4) (kTup K)) rfl sc_Machine___init.nd (pi_list (pv 2)) (blkOk_by (N := N_Machine___init) (sc := defScope s_Machine___init) (by decide +kernel)) (fun _ _ _ _ _ => (pg_name (i := 4) sc_Machine___init.nd rfl (Or.inl rfl))) (fun _ _ _ _ _ => pts_nil) (fun _ _ _ _ _ => (pe_tupleOf (by rfl) T.tuple (pv 4))))) rfl))))))), ?_⟩
      refine ⟨_, rfl, x, dc, rfl, Dx, fun H1 S1 => ⟨isN dc, rfl, ?_⟩⟩
      -- the first test
      by_cases hb : badC dc = true
      · have kb := kB hb
        have hN : ∀ i, dc = .int i → i ≤ 0 := fun i e => by
          rw [e] at hb
          exact of_decide_eq_true hb
        cases Dx with
        | int i =>
          have i0 := hN i rfl
          show (if (!decide (0 ≤ i)) = true then _ else _)
          by_cases h0 : 0 ≤ i
          · have e0 : i = 0 := by omega
            rw [decide_eq_true h0]
            refine iteF ⟨_, rfl, rfl, _, rfl, ?_⟩
            rw [e0]
            refine iteT ⟨_, rfl, fun q hq => kb H1 q S1 hq⟩
          · rw [decide_eq_false h0]
            exact iteT (iteT ⟨_, rfl, fun q hq => kb H1 q S1 hq⟩)
        | non => exact iteT (iteT ⟨_, rfl, fun q hq => kb H1 q S1 hq⟩)
        | bl b => exact iteT (iteT ⟨_, rfl, fun q hq => kb H1 q S1 hq⟩)
        | str b => exact iteT (iteT ⟨_, rfl, fun q hq => kb H1 q S1 hq⟩)
        | lst _ _ => exact iteT (iteT ⟨_, rfl, fun q hq => kb H1 q S1 hq⟩)
        | tup _ _ => exact iteT (iteT ⟨_, rfl, fun q hq => kb H1 q S1 hq⟩)
        | dct _ => exact iteT (iteT ⟨_, rfl, fun q hq => kb H1 q S1 hq⟩)
      obtain ⟨A, rfl, A0⟩ : ∃ A : Int, dc = .int A ∧ 0 < A := by
        cases dc with
        | int i => exact ⟨i, rfl, by have : ¬ i ≤ 0 := fun q => hb (decide_eq_true q); omega⟩
        | none => exact absurd rfl hb
        | bool _ => exact absurd rfl hb
        | str _ => exact absurd rfl hb
        | list _ => exact absurd rfl hb
        | tuple _ => exact absurd rfl hb
        | dict _ => exact absurd rfl hb
      have kG' := kG (by simpa using hb) A rfl
      obtain rfl : x = V.int A := by cases Dx; rfl
      show (if (!decide (0 ≤ A)) = true then _ else _)
      rw [decide_eq_true (show 0 ≤ A by omega)]
      refine iteF ⟨_, rfl, rfl, _, rfl, ?_⟩
      rw [decide_eq_false (show ¬ V.int A = V.int 0 from fun e => by injection e with e; omega)]
      refine iteF ?_
      refine ⟨_, rfl, _, _, rfl, Dy.same S1, fun H2 S2 => ⟨false, rfl, iteT (iteT ⟨_, rfl, fun q hq => ?_⟩)⟩⟩
      have e : stepsRes A (.dict []) = some 1 := rfl
      rw [e] at kG'
      exact kG' H2 q (S1.trans S2) hq
end
end Lk

set_option Elab.async false
set_option linter.all false
set_option maxRecDepth 100000
set_option maxHeartbeats 4000000
namespace Lk
open PySem L2
abbrev s_is_command : Stmt := top 14
abbrev N_is_command : List Str := ["machine", "value"]
abbrev P_is_command : List Str := ["machine", "value"]
theorem sc_is_command : FnScope N_is_command P_is_command (defScope s_is_command) := ⟨rfl, rfl, rfl, by decide +kernel, rfl, by decide +kernel, by decide +kernel⟩
abbrev s_checked_row : Stmt := top 16
abbrev N_checked_row : List Str := ["machine", "value", "index", "entry"]
abbrev P_checked_row : List Str := ["machine", "value"]
theorem sc_checked_row : FnScope N_checked_row P_checked_row (defScope s_checked_row) := ⟨rfl, rfl, rfl, by decide +kernel, rfl, by decide +kernel, by decide +kernel⟩
theorem MachAt.same {C : Addr} {H H' : Hp} {m : Addr} {A : Int} {us : List (Addr × List Int)} (k : Same H H') (x : MachAt C H m A us) : MachAt C H' m A us := by
  obtain ⟨dx, t, h1, h2, h3⟩ := x
  exact ⟨dx, t, k _ _ h1, k _ _ h2, fun u hu => k _ _ (h3 u hu)⟩
/-- objects that are no lists stand -/
def NL (H H' : Hp) : Prop := ∀ a o, H a = some o → (∀ xs, o ≠ .lst xs) → H' a = some o
theorem NL.of_sb {d l : Addr} {H H' : Hp} (x : SB d l H H') (D : DealAt H d l) : NL H H' := fun a o h n => by
  obtain ⟨bs, b, y⟩ := D
  refine x a o h (fun e => ?_) fun e => ?_
  · rw [e, y.hd] at h
    exact n _ (Option.some.inj h).symm
  · rw [e, y.hl] at h
    exact n _ (Option.some.inj h).symm
theorem NL.of_same {H H' : Hp} (x : Same H H') : NL H H' := fun a o h _ => x a o h
theorem NL.trans {H H1 H2 : Hp} (x : NL H H1) (y : NL H1 H2) : NL H H2 := fun a o h n => y a o (x a o h n) n
theorem NL.upd {H : Hp} {a : Addr} {xs : List V} {o : HO} (h : H a = some (.lst xs)) : NL H (L2.upd H a o) := fun b u e n => by
  by_cases q : b = a
  · rw [q, h] at e
    exact absurd (Option.some.inj e).symm (n xs)
  · rw [upd_ne q]
    exact e
theorem MachAt.nl {C : Addr} {H H' : Hp} {m : Addr} {A : Int} {us : List (Addr × List Int)} (k : NL H H') (x : MachAt C H m A us) : MachAt C H' m A us := by
  obtain ⟨dx, t, h1, h2, h3⟩ := x
  exact ⟨dx, t, k _ _ h1 (fun _ e => by cases e), k _ _ h2 (fun _ e => by cases e), fun u hu => k _ _ (h3 u hu) (fun _ e => by cases e)⟩
theorem fld_c (A n : Int) (t : Addr) : (fldM A n t).lookup ("commands" : Str) = some (.int A) := by
  unfold fldM
  rw [lookup_putF, if_neg (by decide +kernel), lookup_putF, if_neg (by decide +kernel), lookup_putF, if_pos rfl]
theorem fld_n (A n : Int) (t : Addr) : (fldM A n t).lookup ("states" : Str) = some (.int n) := by
  unfold fldM
  rw [lookup_putF, if_neg (by decide +kernel), lookup_putF, if_pos rfl]
theorem fld_s (A n : Int) (t : Addr) : (fldM A n t).lookup ("steps" : Str) = some (.ref t) := by
  unfold fldM
  rw [lookup_putF, if_pos rfl]
/-- the index of the first entry that is no command -/
def badV (A : Int) : List PyData → Nat → Option Nat
  | [], _ => none
  | e :: r, i => if isB A e = true then badV A r (i + 1) else some i
def rowRes (A : Int) (d : PyData) : Option Nat := if isS d = false then some 0 else badV A (itemsD d) 0
theorem badV_cons {A : Int} {e : PyData} {r : List PyData} {i : Nat} : badV A (e :: r) i = if isB A e = true then badV A r (i + 1) else some i := rfl
theorem badV_none {A : Int} : ∀ {ds : List PyData} {i : Nat}, badV A ds i = none → ds.all (isB A) = true
  | [], _, _ => rfl
  | d :: ds, i, h => by
    rw [badV_cons] at h
    by_cases hE : isB A d = true
    · rw [if_pos hE] at h
      rw [List.all_cons, hE, badV_none h] <;> rfl
    · rw [if_neg hE] at h
      cases h
def spState (CM : Addr) : Sp := fun vs H Q _ => ∃ (m : Addr) (x : V) (d : PyData) (A : Int) (us : List (Addr × List Int)), vs = [.ref m, x] ∧ MachAt CM H m A us ∧ Dv H x d ∧ ∀ H', Same H H' → Q (.bl (isB (us.length : Int) d)) H'
def spCommand (CM : Addr) : Sp := fun vs H Q _ => ∃ (m : Addr) (x : V) (d : PyData) (A : Int) (us : List (Addr × List Int)), vs = [.ref m, x] ∧ MachAt CM H m A us ∧ Dv H x d ∧ ∀ H', Same H H' → Q (.bl (isB A d)) H'
def intsD (d : PyData) : List Int := (itemsD d).map intD
def spChecked (CM CE : Addr) : Sp := fun vs H Q E => ∃ (m : Addr) (x : V) (d : PyData) (A : Int) (us : List (Addr × List Int)), vs = [.ref m, x] ∧ MachAt CM H m A us ∧ Dv H x d ∧ (itemsD d).length ≤ 1000 ∧
  match rowRes A d with
  | some k => ∀ H' q, Same H H' → H' q = none → E (.ref CE) (some q) (upd H' q (.xd [(("at" : Str), .int (k : Int))]))
  | none => ∀ H' t, Same H H' → H' t = some (.tup ((intsD d).map V.int)) → Q (.ref t) H'
section
variable {P : Program} {w : World} {K : PySem.W.Frag} {mg : Str → Option Value} {base : Heap} {CM : Addr}
theorem ok_command {f fb : Addr} {fd fdb : FuncData} (A0 : Df K mg "is_command" s_is_command f fd P_is_command) (d_is_below : Df K mg "is_below" s_is_below fb fdb P_is_below) (G_is_below : FnOk P w K mg base CX0 3 fb fdb P_is_below spBelowS) (TC : TxC K CM) : FnOk P w K mg base CX0 4 f fd P_is_command (spCommand CM) := by
  refine A0.F.ok sc_is_command (fun vs H Q E h => ?_) (fun cdv Ar outer s H vs Q E hr h => ?_)
  · obtain ⟨m, x, d, A, us, rfl, _⟩ := h
    rfl
  · obtain ⟨m, x, d, A, us, rfl, M, D, k⟩ := h
    refine ⟨_, (pss_one (ps_ret (pe_call G_is_below (hr.mono (by decide)) rfl d_is_below.g d_is_below.F.kp d_is_below.b .nil pass0 (pa_cons (pv 1) (pa_cons (pe_fld (pv 0) rfl) pa_nil))))), ?_⟩
    obtain ⟨dx, t, h1, h2, h3⟩ := M
    exact ⟨_, rfl, _, rfl, m, CM, dx, _, _, rfl, h1, TC.cl, TC.n1, fld_c _ _ _, x, d, _, rfl, D, k⟩
theorem ok_checked {f fs fc CE fCE : Addr} {fd fds fdc : FuncData} (A0 : Df K mg "checked_row" s_checked_row f fd P_checked_row) (d_is_sequence : Df K mg "is_sequence" s_is_sequence fs fds P_is_sequence) (d_is_command : Df K mg "is_command" s_is_command fc fdc P_is_command) (G_is_command : FnOk P w K mg base CX0 4 fc fdc P_is_command (spCommand CM))
    (T : Txt mg) (TE : PySem.ErrX.ErrTxt K mg "InvalidRow" "InvalidRow.__init__" CE fCE) : FnOk P w K mg base (L2.CX P w) 6 f fd P_checked_row (spChecked CM CE) := by
  have G_is_sequence : FnOk P w K mg base CX0 1 fs fds P_is_sequence (spT1 isS) := ok_sequence d_is_sequence T
  refine A0.F.okX sc_checked_row (fun vs H Q E h => ?_) (fun cdv Ar outer s H vs Q E hr h => ?_)
  · obtain ⟨m, x, d, A, us, rfl, _⟩ := h
    rfl
  · obtain ⟨m, x, d, A, us, rfl, M, D, hz, kR⟩ := h
    cases id D with
    | @lst a xs ds' ha hx => 
      refine ⟨_, (pss_cons (ps_if (pt_not (pt_val (pe_call G_is_sequence (hr.mono (by decide)) rfl d_is_sequence.g d_is_sequence.F.kp d_is_sequence.b .nil pass0 (pa_cons (pv 1) pa_nil)))) (pss_one (ps_raiseLow rfl TE hr (takes_of rfl rfl rfl rfl) (pa_cons pe_int pa_nil) (by rfl))) pss_nil)
    (pss_cons (ps_for (passes_of rfl) rfl (pi_enum (by rfl) T.enumerate (pa_cons (pv 1) pa_nil)) (pg_tup rfl (pgs_cons (pg_name (i := 2) sc_checked_row.nd rfl (Or.inl rfl)) (pgs_cons (pg_name (i := 3) sc_checked_row.nd rfl (Or.inl rfl)) pgs_nil)))
      (pss_one (ps_if (pt_not (pt_val (pe_call G_is_command (hr.mono (by decide)) rfl d_is_command.g d_is_command.F.kp d_is_command.b .nil pass0 (pa_cons (pv 0) (pa_cons (pv 3) pa_nil))))) (pss_one (ps_raiseLow rfl TE hr (takes_of rfl rfl rfl rfl) (pa_cons (pv 2) pa_nil) (by rfl))) pss_nil)))
    (pss_one (ps_ret (pe_tupleOf (by rfl) T.tuple (pv 1)))))), ?_⟩
      have hlen : xs.length = ds'.length := hx.len
      refine ⟨_, rfl, .ref a, _, rfl, D, fun H1 S1 => ⟨true, rfl, iteF ?_⟩⟩
      have eR : rowRes A (.list ds') = badV A ds' 0 := rfl
      rw [eR] at kR
      refine ⟨_, rfl, a, xs, rfl, SqL.of (S1 _ _ ha), for_enumL (K := K) (a := a) (xs := xs) (fun i σ H3 => ∃ v2 v3 : Option V, σ = [some (.ref m), some (.ref a), v2, v3] ∧ Same H H3 ∧ badV A ds' 0 = badV A (ds'.drop i) i) ⟨none, none, rfl, S1, rfl⟩ (fun i σ H3 ⟨_, _, _, S, _⟩ => SqL.of (S _ _ ha)) ?_ ?_⟩
      · rintro i y σ H3 t hi ⟨v2, v3, rfl, S3, eb⟩ ht
        obtain ⟨e, he, De⟩ := hx.get hi
        have S4 : Same H (upd H3 t (HO.tup [V.int ((i : Nat) : Int), y])) := S3.trans (Same.new ht)
        refine ⟨t, _, rfl, SqT.of upd_same, rfl, _, _, rfl, _, _, rfl, rfl, ?_⟩
        refine ⟨_, rfl, _, rfl, m, y, e, A, us, rfl, M.same S4, De.same S4, fun H5 S5 => ⟨isB A e, rfl, ?_⟩⟩
        rw [drop_get he, badV_cons] at eb
        by_cases hE : isB A e = true
        · rw [if_pos hE] at eb
          rw [hE]
          exact iteF ⟨_, _, rfl, S4.trans S5, eb⟩
        · rw [if_neg hE] at eb
          rw [show isB A e = false by simpa using hE]
          refine iteT ⟨_, rfl, _, rfl, fun q hq => ?_⟩
          rw [eb] at kR
          exact kR H5 q (S4.trans S5) hq
      · rintro σ H3 ⟨v2, v3, rfl, S3, eb⟩
        rw [hlen, List.drop_length] at eb
        rw [show badV A ds' 0 = none from eb] at kR
        have hxi : xs = (ds'.map intD).map V.int := hx.ints (n := A) (badV_none eb)
        have ha' := ha
        rw [hxi] at ha'
        refine ⟨_, rfl, .inl ⟨a, _, rfl, SqL.of (S3 _ _ ha'), fun t ht => ?_⟩⟩
        exact kR _ t (S3.trans (Same.new ht)) upd_same

    | @tup a xs ds' ha hx => 
      refine ⟨_, (pss_cons (ps_if (pt_not (pt_val (pe_call G_is_sequence (hr.mono (by decide)) rfl d_is_sequence.g d_is_sequence.F.kp d_is_sequence.b .nil pass0 (pa_cons (pv 1) pa_nil)))) (pss_one (ps_raiseLow rfl TE hr (takes_of rfl rfl rfl rfl) (pa_cons pe_int pa_nil) (by rfl))) pss_nil)
    (pss_cons (ps_for (passes_of rfl) rfl (pi_enumT (by rfl) T.enumerate (pa_cons (pv 1) pa_nil)) (pg_tup rfl (pgs_cons (pg_name (i := 2) sc_checked_row.nd rfl (Or.inl rfl)) (pgs_cons (pg_name (i := 3) sc_checked_row.nd rfl (Or.inl rfl)) pgs_nil)))
      (pss_one (ps_if (pt_not (pt_val (pe_call G_is_command (hr.mono (by decide)) rfl d_is_command.g d_is_command.F.kp d_is_command.b .nil pass0 (pa_cons (pv 0) (pa_cons (pv 3) pa_nil))))) (pss_one (ps_raiseLow rfl TE hr (takes_of rfl rfl rfl rfl) (pa_cons (pv 2) pa_nil) (by rfl))) pss_nil)))
    (pss_one (ps_ret (pe_tupleOf (by rfl) T.tuple (pv 1)))))), ?_⟩
      have hlen : xs.length = ds'.length := hx.len
      refine ⟨_, rfl, .ref a, _, rfl, D, fun H1 S1 => ⟨true, rfl, iteF ?_⟩⟩
      have eR : rowRes A (.tuple ds') = badV A ds' 0 := rfl
      rw [eR] at kR
      refine ⟨_, rfl, a, xs, rfl, SqT.of (S1 _ _ ha), for_enumT (K := K) (a := a) (xs := xs) (fun i σ H3 => ∃ v2 v3 : Option V, σ = [some (.ref m), some (.ref a), v2, v3] ∧ Same H H3 ∧ badV A ds' 0 = badV A (ds'.drop i) i) ⟨none, none, rfl, S1, rfl⟩ (fun i σ H3 ⟨_, _, _, S, _⟩ => SqT.of (S _ _ ha)) ?_ ?_⟩
      · rintro i y σ H3 t hi ⟨v2, v3, rfl, S3, eb⟩ ht
        obtain ⟨e, he, De⟩ := hx.get hi
        have S4 : Same H (upd H3 t (HO.tup [V.int ((i : Nat) : Int), y])) := S3.trans (Same.new ht)
        refine ⟨t, _, rfl, SqT.of upd_same, rfl, _, _, rfl, _, _, rfl, rfl, ?_⟩
        refine ⟨_, rfl, _, rfl, m, y, e, A, us, rfl, M.same S4, De.same S4, fun H5 S5 => ⟨isB A e, rfl, ?_⟩⟩
        rw [drop_get he, badV_cons] at eb
        by_cases hE : isB A e = true
        · rw [if_pos hE] at eb
          rw [hE]
          exact iteF ⟨_, _, rfl, S4.trans S5, eb⟩
        · rw [if_neg hE] at eb
          rw [show isB A e = false by simpa using hE]
          refine iteT ⟨_, rfl, _, rfl, fun q hq => ?_⟩
          rw [eb] at kR
          exact kR H5 q (S4.trans S5) hq
      · rintro σ H3 ⟨v2, v3, rfl, S3, eb⟩
        rw [hlen, List.drop_length] at eb
        rw [show badV A ds' 0 = none from eb] at kR
        have hxi : xs = (ds'.map intD).map V.int := hx.ints (n := A) (badV_none eb)
        have ha' := ha
        rw [hxi] at ha'
        refine ⟨_, rfl, .inr ⟨a, _, rfl, SqT.of (S3 _ _ ha'), ?_⟩⟩
        exact kR _ a S3 (S3 _ _ ha')

    | non => 
      refine ⟨_, (pss_cons (ps_if (pt_not (pt_val (pe_call G_is_sequence (hr.mono (by decide)) rfl d_is_sequence.g d_is_sequence.F.kp d_is_sequence.b .nil pass0 (pa_cons (pv 1) pa_nil)))) (pss_one (ps_raiseLow rfl TE hr (takes_of rfl rfl rfl rfl) (pa_cons pe_int pa_nil) (by rfl))) pss_nil)
    (pss_cons (ps_for (passes_of rfl) rfl (pi_enum (by rfl) T.enumerate (pa_cons (pv 1) pa_nil)) (pg_tup rfl (pgs_cons (pg_name (i := 2) sc_checked_row.nd rfl (Or.inl rfl)) (pgs_cons (pg_name (i := 3) sc_checked_row.nd rfl (Or.inl rfl)) pgs_nil)))
      (pss_one (ps_if (pt_not (pt_val (pe_call G_is_command (hr.mono (by decide)) rfl d_is_command.g d_is_command.F.kp d_is_command.b .nil pass0 (pa_cons (pv 0) (pa_cons (pv 3) pa_nil))))) (pss_one (ps_raiseLow rfl TE hr (takes_of rfl rfl rfl rfl) (pa_cons (pv 2) pa_nil) (by rfl))) pss_nil)))
    (pss_one (ps_ret (pe_tupleOf (by rfl) T.tuple (pv 1)))))), ?_⟩
      refine ⟨_, rfl, _, _, rfl, D, fun H1 S1 => ⟨false, rfl, iteT ⟨_, rfl, fun q hq => ?_⟩⟩⟩
      have e : rowRes A .none = some 0 := rfl
      rw [e] at kR
      exact kR H1 q S1 hq
    | bl b => 
      refine ⟨_, (pss_cons (ps_if (pt_not (pt_val (pe_call G_is_sequence (hr.mono (by decide)) rfl d_is_sequence.g d_is_sequence.F.kp d_is_sequence.b .nil pass0 (pa_cons (pv 1) pa_nil)))) (pss_one (ps_raiseLow rfl TE hr (takes_of rfl rfl rfl rfl) (pa_cons pe_int pa_nil) (by rfl))) pss_nil)
    (pss_cons (ps_for (passes_of rfl) rfl (pi_enum (by rfl) T.enumerate (pa_cons (pv 1) pa_nil)) (pg_tup rfl (pgs_cons (pg_name (i := 2) sc_checked_row.nd rfl (Or.inl rfl)) (pgs_cons (pg_name (i := 3) sc_checked_row.nd rfl (Or.inl rfl)) pgs_nil)))
      (pss_one (ps_if (pt_not (pt_val (pe_call G_is_command (hr.mono (by decide)) rfl d_is_command.g d_is_command.F.kp d_is_command.b .nil pass0 (pa_cons (pv 0) (pa_cons (pv 3) pa_nil))))) (pss_one (ps_raiseLow rfl TE hr (takes_of rfl rfl rfl rfl) (pa_cons (pv 2) pa_nil) (by rfl))) pss_nil)))
    (pss_one (ps_ret (pe_tupleOf (by rfl) T.tuple (pv 1)))))), ?_⟩
      refine ⟨_, rfl, _, _, rfl, D, fun H1 S1 => ⟨false, rfl, iteT ⟨_, rfl, fun q hq => ?_⟩⟩⟩
      have e : rowRes A (.bool b) = some 0 := rfl
      rw [e] at kR
      exact kR H1 q S1 hq
    | int i0 => 
      refine ⟨_, (pss_cons (ps_if (pt_not (pt_val (pe_call G_is_sequence (hr.mono (by decide)) rfl d_is_sequence.g d_is_sequence.F.kp d_is_sequence.b .nil pass0 (pa_cons (pv 1) pa_nil)))) (pss_one (ps_raiseLow rfl TE hr (takes_of rfl rfl rfl rfl) (pa_cons pe_int pa_nil) (by rfl))) pss_nil)
    (pss_cons (ps_for (passes_of rfl) rfl (pi_enum (by rfl) T.enumerate (pa_cons (pv 1) pa_nil)) (pg_tup rfl (pgs_cons (pg_name (i := 2) sc_checked_row.nd rfl (Or.inl rfl)) (pgs_cons (pg_name (i := 3) sc_checked_row.nd rfl (Or.inl rfl)) pgs_nil)))
      (pss_one (ps_if (pt_not (pt_val (pe_call G_is_command (hr.mono (by decide)) rfl d_is_command.g d_is_command.F.kp d_is_command.b .nil pass0 (pa_cons (pv 0) (pa_cons (pv 3) pa_nil))))) (pss_one (ps_raiseLow rfl TE hr (takes_of rfl rfl rfl rfl) (pa_cons (pv 2) pa_nil) (by rfl))) pss_nil)))
    (pss_one (ps_ret (pe_tupleOf (by rfl) T.tuple (pv 1)))))), ?_⟩
      refine ⟨_, rfl, _, _, rfl, D, fun H1 S1 => ⟨false, rfl, iteT ⟨_, rfl, fun q hq => ?_⟩⟩⟩
      have e : rowRes A (.int i0) = some 0 := rfl
      rw [e] at kR
      exact kR H1 q S1 hq
    | str z => 
      refine ⟨_, (pss_cons (ps_if (pt_not (pt_val (pe_call G_is_sequence (hr.mono (by decide)) rfl d_is_sequence.g d_is_sequence.F.kp d_is_sequence.b .nil pass0 (pa_cons (pv 1) pa_nil)))) (pss_one (ps_raiseLow rfl TE hr (takes_of rfl rfl rfl rfl) (pa_cons pe_int pa_nil) (by rfl))) pss_nil)
    (pss_cons (ps_for (passes_of rfl) rfl (pi_enum (by rfl) T.enumerate (pa_cons (pv 1) pa_nil)) (pg_tup rfl (pgs_cons (pg_name (i := 2) sc_checked_row.nd rfl (Or.inl rfl)) (pgs_cons (pg_name (i := 3) sc_checked_row.nd rfl (Or.inl rfl)) pgs_nil)))
      (pss_one (ps_if (pt_not (pt_val (pe_call G_is_command (hr.mono (by decide)) rfl d_is_command.g d_is_command.F.kp d_is_command.b .nil pass0 (pa_cons (pv 0) (pa_cons (pv 3) pa_nil))))) (pss_one (ps_raiseLow rfl TE hr (takes_of rfl rfl rfl rfl) (pa_cons (pv 2) pa_nil) (by rfl))) pss_nil)))
    (pss_one (ps_ret (pe_tupleOf (by rfl) T.tuple (pv 1)))))), ?_⟩
      refine ⟨_, rfl, _, _, rfl, D, fun H1 S1 => ⟨false, rfl, iteT ⟨_, rfl, fun q hq => ?_⟩⟩⟩
      have e : rowRes A (.str z) = some 0 := rfl
      rw [e] at kR
      exact kR H1 q S1 hq
    | dct _ => 
      refine ⟨_, (pss_cons (ps_if (pt_not (pt_val (pe_call G_is_sequence (hr.mono (by decide)) rfl d_is_sequence.g d_is_sequence.F.kp d_is_sequence.b .nil pass0 (pa_cons (pv 1) pa_nil)))) (pss_one (ps_raiseLow rfl TE hr (takes_of rfl rfl rfl rfl) (pa_cons pe_int pa_nil) (by rfl))) pss_nil)
    (pss_cons (ps_for (passes_of rfl) rfl (pi_enum (by rfl) T.enumerate (pa_cons (pv 1) pa_nil)) (pg_tup rfl (pgs_cons (pg_name (i := 2) sc_checked_row.nd rfl (Or.inl rfl)) (pgs_cons (pg_name (i := 3) sc_checked_row.nd rfl (Or.inl rfl)) pgs_nil)))
      (pss_one (ps_if (pt_not (pt_val (pe_call G_is_command (hr.mono (by decide)) rfl d_is_command.g d_is_command.F.kp d_is_command.b .nil pass0 (pa_cons (pv 0) (pa_cons (pv 3) pa_nil))))) (pss_one (ps_raiseLow rfl TE hr (takes_of rfl rfl rfl rfl) (pa_cons (pv 2) pa_nil) (by rfl))) pss_nil)))
    (pss_one (ps_ret (pe_tupleOf (by rfl) T.tuple (pv 1)))))), ?_⟩
      refine ⟨_, rfl, _, _, rfl, D, fun H1 S1 => ⟨false, rfl, iteT ⟨_, rfl, fun q hq => ?_⟩⟩⟩
      have e : rowRes A (.dict []) = some 0 := rfl
      rw [e] at kR
      exact kR H1 q S1 hq
end
end Lk

set_option Elab.async false
set_option linter.all false
set_option maxRecDepth 100000
set_option maxHeartbeats 4000000
namespace Lk
open PySem L2
abbrev s_resting : Stmt := top 17
abbrev N_resting : List Str := ["machine"]
abbrev P_resting : List Str := ["machine"]
theorem sc_resting : FnScope N_resting P_resting (defScope s_resting) := ⟨rfl, rfl, rfl, by decide +kernel, rfl, by decide +kernel, by decide +kernel⟩
abbrev s_effects : Stmt := top 18
abbrev N_effects : List Str := ["machine", "entry", "command"]
abbrev P_effects : List Str := ["machine"]
theorem sc_effects : FnScope N_effects P_effects (defScope s_effects) := ⟨rfl, rfl, rfl, by decide +kernel, rfl, by decide +kernel, by decide +kernel⟩
abbrev s_followed : Stmt := top 19
abbrev N_followed : List Str := ["one", "other", "state"]
abbrev P_followed : List Str := ["one", "other"]
theorem sc_followed : FnScope N_followed P_followed (defScope s_followed) := ⟨rfl, rfl, rfl, by decide +kernel, rfl, by decide +kernel, by decide +kernel⟩
abbrev s_effect : Stmt := top 20
abbrev N_effect : List Str := ["machine", "row", "each", "ends", "command"]
abbrev P_effect : List Str := ["machine", "row"]
theorem sc_effect : FnScope N_effect P_effect (defScope s_effect) := ⟨rfl, rfl, rfl, by decide +kernel, rfl, by decide +kernel, by decide +kernel⟩
/-! ### what is told of a machine -/
/-- a machine's data: A commands, rows of states -/
structure MOk (A : Int) (us : List (Addr × List Int)) : Prop where
  a0 : 0 < A
  a1 : A ≤ 1000
  n1 : us.length ≤ 1000
  rs : Rs A.toNat (rsOf us)
theorem rsOf_len (us : List (Addr × List Int)) : (rsOf us).length = us.length := List.length_map ..
/-- the column of a command -/
def col (rs : List (List Int)) (c : Nat) : List Int := rs.map fun r => r.getD c 0
theorem inB {A : Int} {ds : List PyData} (h : ds.all (isB A) = true) : ∀ c ∈ ds.map intD, 0 ≤ c ∧ c < A := fun c hc => by
  obtain ⟨d, hd, rfl⟩ := List.mem_map.mp hc
  have q := List.all_eq_true.mp h d hd
  cases d with
  | int i =>
    have q' : (decide (0 ≤ i) && decide (i < A)) = true := q
    rw [Bool.and_eq_true] at q'
    exact ⟨of_decide_eq_true q'.1, of_decide_eq_true q'.2⟩
  | none => cases q
  | bool _ => cases q
  | str _ => cases q
  | list _ => cases q
  | tuple _ => cases q
  | dict _ => cases q
theorem rowRes_in {A : Int} {d : PyData} (h : rowRes A d = none) : ∀ c ∈ intsD d, 0 ≤ c ∧ c < A := by
  unfold rowRes at h
  by_cases hs : isS d = false
  · rw [if_pos hs] at h
    cases h
  · rw [if_neg hs] at h
    exact inB (badV_none h)
theorem effs_nil (rs : List (List Int)) : effs rs [] = rng rs.length := rfl
theorem effs_snoc {A : Nat} {rs : List (List Int)} (x : Rs A rs) {ns : List Int} {c : Int} (h : ∀ z ∈ ns, 0 ≤ z ∧ z < (A : Int)) (c0 : 0 ≤ c) : comp (effs rs ns) (col rs c.toNat) = effs rs (ns ++ [c]) := by
  unfold comp effs
  rw [List.map_map]
  refine List.map_congr_left fun s hs => ?_
  have hs' := List.mem_range.mp hs
  have hl := x.led (ns := ns) (s := (s : Int)) (by omega) (by omega) h
  show (col rs c.toNat).getD (led rs (s : Int) ns).toNat 0 = led rs (s : Int) (ns ++ [c])
  have e : led rs (s : Int) (ns ++ [c]) = stp rs (led rs (s : Int) ns) c := by
    unfold led
    rw [List.foldl_append]
    rfl
  rw [e]
  unfold stp col
  have hi := item_of hl.1 hl.2 ([] : List Int)
  rw [List.getD_eq_getElem?_getD, List.getElem?_map, hi]
  rfl
def spEnd (CM CR CW : Addr) : Sp := fun vs H Q E => ∃ (m : Addr) (x y : V) (dx dy : PyData) (A : Int) (us : List (Addr × List Int)), vs = [.ref m, x, y] ∧ MachAt CM H m A us ∧ MOk A us ∧ Dv H x dx ∧ Dv H y dy ∧ (itemsD dy).length ≤ 1000 ∧
  (isB (us.length : Int) dx = false → ∀ H' q, Same H H' → H' q = none → E (.ref CR) (some q) (upd H' q (.xd [(("at" : Str), .int 0)]))) ∧
  (isB (us.length : Int) dx = true → match rowRes A dy with
    | some k => ∀ H' q, Same H H' → H' q = none → E (.ref CW) (some q) (upd H' q (.xd [(("at" : Str), .int (k : Int))]))
    | none => ∀ H', Same H H' → Q (.int (led (rsOf us) (intD dx) (intsD dy))) H')
def spResting (CM : Addr) : Sp := fun vs H Q _ => ∃ (m : Addr) (A : Int) (us : List (Addr × List Int)), vs = [.ref m] ∧ MachAt CM H m A us ∧ us.length ≤ 1000 ∧ ∀ t, H t = none → Q (.ref t) (upd H t (.tup ((rng us.length).map V.int)))
def spEffects (CM : Addr) : Sp := fun vs H Q _ => ∃ (m : Addr) (A : Int) (us : List (Addr × List Int)), vs = [.ref m] ∧ MachAt CM H m A us ∧ MOk A us ∧
  ∀ H' t (ts : List (Addr × List Int)), Same H H' → H' t = some (.tup (ts.map fun u => V.ref u.1)) → (ts.length : Int) = A → (∀ u ∈ ts, H' u.1 = some (.tup (u.2.map V.int))) → (∀ (i : Nat) u, ts[i]? = some u → u.2 = col (rsOf us) i) → Q (.ref t) H'
def spFollowed : Sp := fun vs H Q _ => ∃ (a b : Addr) (f g : List Int), vs = [.ref a, .ref b] ∧ H a = some (.tup (f.map V.int)) ∧ H b = some (.tup (g.map V.int)) ∧ f.length ≤ 1000 ∧ (∀ z ∈ f, 0 ≤ z ∧ z < (g.length : Int)) ∧
  ∀ H' t, Same H H' → H' t = some (.tup ((comp f g).map V.int)) → Q (.ref t) H'
def spEff (CM CW : Addr) : Sp := fun vs H Q E => ∃ (m : Addr) (y : V) (dy : PyData) (A : Int) (us : List (Addr × List Int)), vs = [.ref m, y] ∧ MachAt CM H m A us ∧ MOk A us ∧ Dv H y dy ∧ (itemsD dy).length ≤ 1000 ∧
  match rowRes A dy with
  | some k => ∀ H' q, Same H H' → H' q = none → E (.ref CW) (some q) (upd H' q (.xd [(("at" : Str), .int (k : Int))]))
  | none => ∀ H' t, Same H H' → H' t = some (.tup ((effs (rsOf us) (intsD dy)).map V.int)) → Q (.ref t) H'
def spEop (CM CW : Addr) : Sp := fun vs H Q E => ∃ (m : Addr) (y : V) (dy : PyData) (A : Int) (us : List (Addr × List Int)) (n : Nat), vs = [.ref m, y, .int (n : Int)] ∧ MachAt CM H m A us ∧ MOk A us ∧ Dv H y dy ∧ (itemsD dy).length ≤ 1000 ∧ n < 2 ^ 63 ∧
  match rowRes A dy with
  | some k => ∀ H' q, Same H H' → H' q = none → E (.ref CW) (some q) (upd H' q (.xd [(("at" : Str), .int (k : Int))]))
  | none => ∀ H' t, Same H H' → H' t = some (.tup ((powG 63 n (effs (rsOf us) (intsD dy)) (rng us.length)).map V.int)) → Q (.ref t) H'
section
variable {P : Program} {w : World} {K : PySem.W.Frag} {mg : Str → Option Value} {base : Heap} {CM CR CW : Addr}
theorem ok_resting {f : Addr} {fd : FuncData} (A0 : Df K mg "resting" s_resting f fd P_resting) (T : Txt mg) (TC : TxC K CM) : FnOk P w K mg base CX0 1 f fd P_resting (spResting CM) := by
  refine A0.F.ok sc_resting (fun vs H Q E h => ?_) (fun cdv Ar outer s H vs Q E hr h => ?_)
  · obtain ⟨m, A, us, rfl, _⟩ := h
    rfl
  · obtain ⟨m, A, us, rfl, M, hz, k⟩ := h
    refine ⟨_, (pss_one (ps_ret (pe_tupRg rfl (by rfl) T.tuple (prg_1 (by rfl) T.range (pe_fld (pv 0) rfl))))), ?_⟩
    obtain ⟨dx, t, h1, h2, h3⟩ := M
    refine ⟨_, rfl, m, CM, dx, _, _, rfl, h1, TC.cl, TC.n2, fld_n _ _ _, _, rfl, RgOk.of_le (by decide) (by omega) (by decide) (by omega), fun q hq => ?_⟩
    rw [rgV_rng]
    exact k q hq
theorem ok_followed {f : Addr} {fd : FuncData} (A0 : Df K mg "followed" s_followed f fd P_followed) (T : Txt mg) : FnOk P w K mg base CX0 1 f fd P_followed spFollowed := by
  refine A0.F.ok sc_followed (fun vs H Q E h => ?_) (fun cdv Ar outer s H vs Q E hr h => ?_)
  · obtain ⟨a, b, ff, g, rfl, _⟩ := h
    rfl
  · obtain ⟨a, b, ff, g, rfl, ha, hb, hl, hin, k⟩ := h
    refine ⟨_, (pss_one (ps_ret (pe_tupleOf (by rfl) T.tuple (pe_lc (own := [("state", 2)]) (g := gName 2) (tt := tYes) (te := tOp (rIxT K) (tVar 1) (tVar 2)) rfl sc_followed.nd (pi_tup (pv 0)) (blkOk_by (N := N_followed) (sc := defScope s_followed) (by decide +kernel)) (fun _ _ _ _ _ => (pg_name (i := 2) sc_followed.nd rfl (Or.inl rfl))) (fun _ _ _ _ _ => pts_nil) (fun _ _ _ _ _ => (pe_ix ix_tup (pv 1) (pv 2) (fun _ _ => rfl))))))), ?_⟩
    refine ⟨_, rfl, a, rfl, ⟨_, SqT.of ha⟩, fun D hD => ?_⟩
    refine lcPT (K := K) (a := a) (xs := ff.map V.int) (fC g) hD (by rw [List.length_map]; omega) (SqT.of ha) (fun y hy H2 S2 Q2 kQ => ?_) (fun H2 e2 S2 => .inl ⟨D, _, rfl, SqL.of e2, fun t ht => ?_⟩)
    · obtain ⟨z, hz, rfl⟩ := List.mem_map.mp hy
      obtain ⟨z0, z1⟩ := hin z hz
      exact ⟨_, rfl, _, rfl, b, _, z, _, rfl, rfl, SqT.of (S2 _ _ hb), atI_int z0 (by rw [List.getElem?_map, item_of z0 z1 (0 : Int)] <;> rfl), kQ _ (Same.refl _)⟩
    · refine k _ t (S2.trans (Same.new ht)) ?_
      rw [upd_same, fC_map]
end
end Lk

set_option Elab.async false
set_option linter.all false
set_option maxRecDepth 100000
set_option maxHeartbeats 4000000
namespace Lk
open PySem L2
theorem powG_zero (kk : Nat) (a b : List Int) : powG kk 0 a b = b := by
  cases kk <;> rfl
theorem powG_step {kk t : Nat} (h : 0 < t) (a b : List Int) : powG (kk + 1) t a b = powG kk (t / 2) (comp a a) (if t % 2 = 1 then comp b a else b) := by
  show (if t = 0 then b else _) = _
  rw [if_neg (by omega)]
theorem effs_in {A : Nat} {rs : List (List Int)} (x : Rs A rs) {ns : List Int} (h : ∀ z ∈ ns, 0 ≤ z ∧ z < (A : Int)) : InR rs.length (effs rs ns) := by
  refine ⟨by unfold effs; simp, fun z hz => ?_⟩
  obtain ⟨s, hs, rfl⟩ := List.mem_map.mp hz
  have hs' := List.mem_range.mp hs
  exact x.led (by omega) (by omega) h
section
variable {P : Program} {w : World} {K : PySem.W.Frag} {mg : Str → Option Value} {base : Heap} {CM CR CW : Addr}
theorem ok_effects {f : Addr} {fd : FuncData} (A0 : Df K mg "effects" s_effects f fd P_effects) (T : Txt mg) (TC : TxC K CM) : FnOk P w K mg base CX0 1 f fd P_effects (spEffects CM) := by
  refine A0.F.ok sc_effects (fun vs H Q E h => ?_) (fun cdv Ar outer s H vs Q E hr h => ?_)
  · obtain ⟨m, A, us, rfl, _⟩ := h
    rfl
  · obtain ⟨m, A, us, rfl, M, O, k⟩ := h
    refine ⟨_, (pss_one (ps_ret (pe_tupleOf (by rfl) T.tuple (pe_lc (own := [("command", 2)]) (g := gName 2) (tt := tYes) (te := tThen (tLc (iTup K (tFld K (tVar 0) "steps")) (gName 1) tYes (tOp (rIxT K) (tVar 1) (tVar 2)) [1]) (kTup K)) rfl sc_effects.nd (pi_range1 rfl T.range (pa_cons (pe_fld (pv 0) rfl) pa_nil)) (blkOk_by (N := N_effects) (sc := defScope s_effects) (by decide +kernel)) (fun _ _ _ _ _ => (pg_name (i := 2) sc_effects.nd rfl (Or.inr rfl))) (fun _ _ _ _ _ => pts_nil)
      (fun _ _ _ _ _ => (pe_tupleOf (by rfl) T.tuple (pe_lc (own := [("entry", 1)]) (wi := iTup K (tFld K (tVar 0) "steps")) (g := gName 1) (tt := tYes) (te := tOp (rIxT K) (tVar 1) (tVar 2)) rfl sc_effects.nd (pi_tup (pe_fld (pv 0) rfl)) (blkOk_by (N := N_effects) (sc := { kind := .function, names := [(".0", .local), ("command", .cell), ("tuple", .globalImplicit), ("machine", .cell)], isGenerator := false, isCoroutine := false }) (by decide +kernel)) (fun _ _ _ _ _ => (pg_name (i := 1) sc_effects.nd rfl (Or.inl rfl))) (fun _ _ _ _ _ => pts_nil) (fun _ _ _ _ _ => (pe_ix ix_tup (pv 1) (pv 2) (fun _ _ => rfl)))))))))), ?_⟩
    have hA := O.a0
    have hA1 := O.a1
    obtain ⟨dx, t, h1, h2, h3⟩ := id M
    refine ⟨_, rfl, m, CM, dx, _, _, rfl, h1, TC.cl, TC.n1, fld_c _ _ _, A, rfl, by omega, by omega, fun D hD => ?_⟩
    refine lcR (lo := 0) (n := A.toNat) (fun _ => False) (fun _ => True) (fun i y H' => ∃ u : Addr × List Int, y = V.ref u.1 ∧ u.1 ≠ D ∧ H' u.1 = some (.tup (u.2.map V.int)) ∧ u.2 = col (rsOf us) i) hD id (by omega) trivial (fun _ _ _ => trivial) (fun i y H1 H2 kp ⟨u, e1, e2, e3, e4⟩ => ⟨u, e1, e2, kp.get (fun q => q.elim id e2) e3, e4⟩) (fun i H1 acc hi _ k1 hD1 Q1 kQ => ?_) (fun ys H' hl hf hD' _ kp => ?_)
    · have S1 : Same H H1 := k1.toSame
      refine ⟨_, rfl, m, CM, dx, _, _, rfl, S1 _ _ h1, TC.cl, TC.n3, fld_s _ _ _, t, rfl, ⟨_, SqT.of (S1 _ _ h2)⟩, fun D2 hD2 => ?_⟩
      refine lcTT (K := K) (a := t) (xs := us.map fun u => V.ref u.1) (fun _ => False) (fun _ => True) (fun k y _ => ∃ z : Int, y = V.int z ∧ ∃ u, us[k]? = some u ∧ z = u.2.getD i 0) hD2 id (by rw [List.length_map]; have := O.n1; omega) trivial (fun _ _ _ => trivial) (fun _ _ _ _ _ x => x) (fun H2 kp => SqT.of (kp.get id (S1 _ _ h2)))
        (fun k y H2 acc2 hk _ k2 _ Q2 kQ2 => ?_) (fun ys2 H3 hl2 hf2 hD3 _ kp3 => ?_)
      · rw [List.getElem?_map] at hk
        obtain ⟨u, hu, rfl⟩ : ∃ u, us[k]? = some u ∧ V.ref u.1 = y := by
          cases e : us[k]? with
          | none => rw [e] at hk; cases hk
          | some u => rw [e] at hk; exact ⟨u, rfl, Option.some.inj hk⟩
        obtain ⟨ru, _⟩ := O.rs.row _ (mem_of_get (rsOf_get hu))
        have hlt : ((0 : Int) + (i : Int)) < (u.2.length : Int) := by rw [ru]; omega
        refine ⟨_, rfl, _, rfl, u.1, _, _, V.int (u.2.getD i 0), rfl, rfl, SqT.of (k2.get id (S1 _ _ (h3 u (mem_of_get hu)))), atI_int (by omega) ?_, kQ2 _ _ trivial (KP.refl _ _) ⟨_, rfl, u, hu, rfl⟩⟩
        have e := item_of (show 0 ≤ (0 : Int) + (i : Int) by omega) hlt (0 : Int)
        have e2 : ((0 : Int) + (i : Int)).toNat = i := by omega
        rw [e2] at e ⊢
        rw [List.getElem?_map, e]
        rfl
      · obtain ⟨zs, rfl, hz⟩ := collect (g := V.int) hf2
        refine .inl ⟨D2, _, rfl, SqL.of hD3, fun q hq => ?_⟩
        refine kQ _ _ trivial (kp3.trans (KP.new hq)) ⟨(q, zs), rfl, fun e => ?_, upd_same, ?_⟩
        · have e' : q = D := e
          have hD4 := kp3.get id hD1
          rw [e', hD4] at hq
          cases hq
        · rw [List.length_map, List.length_map] at hl2
          refine List.ext_getElem? fun k => ?_
          unfold col
          rw [List.getElem?_map]
          cases hk : us[k]? with
          | none =>
            have q1 : us.length ≤ k := List.getElem?_eq_none_iff.mp hk
            have q2 : zs[k]? = none := List.getElem?_eq_none_iff.mpr (by omega)
            have q3 : (rsOf us)[k]? = none := List.getElem?_eq_none_iff.mpr (by rw [rsOf_len]; exact q1)
            rw [q2, q3] <;> rfl
          | some u =>
            have hzk : k < zs.length := by
              have := (List.getElem?_eq_some_iff.mp hk).1
              omega
            obtain ⟨u', hu', e⟩ := hz k _ (List.getElem?_eq_getElem hzk)
            rw [hk] at hu'
            cases hu'
            rw [List.getElem?_eq_getElem hzk, e, rsOf_get hk]
            rfl
    · obtain ⟨ts, rfl, ht⟩ := collect (g := fun u : Addr × List Int => V.ref u.1) hf
      rw [List.length_map] at hl
      refine .inl ⟨D, _, rfl, SqL.of hD', fun q hq => ?_⟩
      refine k _ q ts (kp.toSame.trans (Same.new hq)) upd_same (by omega) (fun u hu => ?_) (fun i u hi => (ht i u hi).2.2)
      obtain ⟨i, hi⟩ := List.getElem?_of_mem hu
      exact nk (ht i u hi).2.1 hq
theorem ok_eff {f fe fr fo fc fW : Addr} {fd fde fdr fdo fdc : FuncData} (A0 : Df K mg "effect" s_effect f fd P_effect) (d_effects : Df K mg "effects" s_effects fe fde P_effects) (d_resting : Df K mg "resting" s_resting fr fdr P_resting) (d_followed : Df K mg "followed" s_followed fo fdo P_followed) (d_checked_row : Df K mg "checked_row" s_checked_row fc fdc P_checked_row)
    (G_checked_row : FnOk P w K mg base (L2.CX P w) 6 fc fdc P_checked_row (spChecked CM CW)) (T : Txt mg) (TC : TxC K CM) : FnOk P w K mg base (L2.CX P w) 7 f fd P_effect (spEff CM CW) := by
  have G_effects : FnOk P w K mg base CX0 1 fe fde P_effects (spEffects CM) := ok_effects d_effects T TC
  have G_resting : FnOk P w K mg base CX0 1 fr fdr P_resting (spResting CM) := ok_resting d_resting T TC
  have G_followed : FnOk P w K mg base CX0 1 fo fdo P_followed spFollowed := ok_followed d_followed T
  refine A0.F.okX sc_effect (fun vs H Q E h => ?_) (fun cdv Ar outer s H vs Q E hr h => ?_)
  · obtain ⟨m, y, dy, A, us, rfl, _⟩ := h
    rfl
  · obtain ⟨m, y, dy, A, us, rfl, M, O, Dy, hz, kG⟩ := h
    have tk : Takes (cxOf (L2.CX P w) P w K mg base N_effect "effect" (defScope s_effect) f cdv Ar outer s H E) (fun cls d _ H => E cls d H) := takes_of rfl rfl rfl rfl
    refine ⟨_, (pss_cons (ps_set (i := 2) sc_effect.nd rfl (Or.inl rfl) (pe_call G_effects (hr.mono (by decide)) rfl d_effects.g d_effects.F.kp d_effects.b .nil pass0 (pa_cons (pv 0) pa_nil)))
    (pss_cons (ps_set (i := 3) sc_effect.nd rfl (Or.inl rfl) (pe_call G_resting (hr.mono (by decide)) rfl d_resting.g d_resting.F.kp d_resting.b .nil pass0 (pa_cons (pv 0) pa_nil)))
    (pss_cons (ps_for (passes_of rfl) rfl (pi_tup (pe_callS G_checked_row (hr.mono (by decide)) rfl d_checked_row.g d_checked_row.F.kp d_checked_row.b (fun σ => passAt tk σ) (pa_cons (pv 0) (pa_cons (pv 1) pa_nil)))) (pg_name (i := 4) sc_effect.nd rfl (Or.inl rfl))
      (pss_one (ps_set (i := 3) sc_effect.nd rfl (Or.inl rfl) (pe_call G_followed (hr.mono (by decide)) rfl d_followed.g d_followed.F.kp d_followed.b .nil pass0 (pa_cons (pv 3) (pa_cons (pe_ix ix_tup (pv 2) (pv 4) (fun _ _ => rfl)) pa_nil))))))
    (pss_one (ps_ret (pv 3)))))), ?_⟩
    have hA := O.a0
    have hn1 := O.n1
    refine ⟨_, rfl, m, A, us, rfl, M, O, fun H1 te ts S1 hte hlt hrow hcol => ?_⟩
    refine ⟨_, rfl, m, A, us, rfl, M.same S1, hn1, fun tr htr => ?_⟩
    have S2 : Same H1 (upd H1 tr (HO.tup ((rng us.length).map V.int))) := Same.new htr
    have S02 := S1.trans S2
    refine ⟨_, rfl, _, rfl, m, y, dy, A, us, rfl, M.same S02, Dy.same S02, hz, ?_⟩
    cases hrr : rowRes A dy with
    | some k =>
      rw [hrr] at kG
      exact fun H' q S' hq => kG H' q (S02.trans S') hq
    | none =>
      rw [hrr] at kG
      have hin := rowRes_in hrr
      have hinN : ∀ (l : List Int), (∀ z ∈ l, z ∈ intsD dy) → ∀ z ∈ l, 0 ≤ z ∧ z < ((A.toNat : Nat) : Int) := fun l hl z hz => by
        have := hin z (hl z hz)
        omega
      intro H3 t S3 ht
      refine ⟨t, rfl, ⟨_, SqT.of ht⟩, for_tup (K := K) (a := t) (xs := (intsD dy).map V.int) (fun i σ H4 => ∃ (q : Addr) (v : Option V), σ = [some (.ref m), some y, some (.ref te), some (.ref q), v] ∧ Same H3 H4 ∧ H4 q = some (.tup ((effs (rsOf us) ((intsD dy).take i)).map V.int))) ⟨tr, none, rfl, Same.refl _, ?_⟩ (fun i σ H4 _ ⟨_, _, _, S4, _⟩ => SqT.of (S4 _ _ ht)) ?_ ?_⟩
      · rw [List.take_zero, effs_nil, rsOf_len]
        exact S3 _ _ upd_same
      · rintro i v0 σ H4 hi ⟨q, v, rfl, S4, hq⟩
        obtain ⟨c, hci, rfl⟩ : ∃ c, (intsD dy)[i]? = some c ∧ V.int c = v0 := by
          rw [List.getElem?_map] at hi
          cases e : (intsD dy)[i]? with
          | none => rw [e] at hi; cases hi
          | some c => rw [e] at hi; exact ⟨c, rfl, Option.some.inj hi⟩
        have hcm := hin c (mem_of_get hci)
        have hlt2 : c.toNat < ts.length := by omega
        have hu : ts[c.toNat]? = some ts[c.toNat] := List.getElem?_eq_getElem hlt2
        have S24 := (S2.trans S3).trans S4
        have hE := effs_in O.rs (ns := (intsD dy).take i) (hinN _ fun z hz => List.mem_of_mem_take hz)
        rw [rsOf_len] at hE
        have hcl : (col (rsOf us) c.toNat).length = us.length := by unfold col; rw [List.length_map, rsOf_len]
        refine ⟨_, rfl, _, rfl, _, rfl, te, _, c, _, rfl, rfl, SqT.of (S24 _ _ hte), atI_int hcm.1 (by rw [List.getElem?_map, hu] <;> rfl), q, _, _, (ts[c.toNat]).2, rfl, hq, S24 _ _ (hrow _ (mem_of_get hu)), by rw [hE.len]; exact hn1, fun z hz => ?_, fun H5 q5 S5 h5 => ?_⟩
        · rw [hcol c.toNat _ hu, hcl]
          exact hE.mem z hz
        · refine ⟨q5, _, rfl, S4.trans S5, ?_⟩
          rw [h5, hcol c.toNat _ hu, effs_snoc O.rs (hinN _ fun z hz => List.mem_of_mem_take hz) hcm.1, take_next hci]
      · rintro σ H4 ⟨q, v, rfl, S4, hq⟩
        rw [List.length_map, List.take_length] at hq
        exact ⟨_, rfl, kG H4 q ((S02.trans S3).trans S4) hq⟩
end
end Lk

set_option Elab.async false
set_option linter.all false
set_option maxRecDepth 100000
set_option maxHeartbeats 4000000
namespace PySem.W
open PySem PySem.Calls PyProof.Rows
section
variable {prog : Program} {w : World} {A : Around} {E : Value → Shared → Prop} {s : Shared} {K : Frag} {h₀ : Heap} {L x C f : Addr} {m : Str → Option Value} {ox : Obj} {od : Option Obj} {b tb : Value}
/-- what != makes of an own == -/
def NeB (Q : Value → Shared → Prop) (v : Value) (s' : Shared) : Prop := ∃ c : Bool, v = .bool c ∧ Q (.bool (!c)) s'
theorem boundB {M : Model} {name : Str} {id : String} {args : List Value} {Q : Option Value → Shared → Prop} (X : K.In s.heap)
    (I : InstAt s.heap x ox C od) (hs : findIn K (.ref C) name = some (some (.builtin id))) (S : Slot "object" name id)
    (h : wpAny M A (call (.builtin id) (.ref x :: args)) (fun v => Q (some v)) E s) :
    wpAny M A (callSpecialIfBound? (.ref x) name args) Q E s := by
  simp only [callSpecialIfBound?, bindSpecialIfBound?]
  refine wpAny_holding (wpAny_bind (wpAny_bind (wpAny_bind (I.type.here ((looks_findIn X hs).here ?_)))))
  simp only [S.bind]
  refine wpAny_bind (wpAny_askSetting (wpAny_ite ?_))
  have fin : wpAny M A (call (.builtin id) ([.ref x] ++ args) >>= fun v => pure (some v)) Q E s :=
    wpAny_bind (wpAny_mono h (fun v s' h' => wpAny_pure h') fun _ _ h' => h')
  split
  · exact wpAny_bind (wpAny_pure (wpAny_pure fin))
  · exact wpAny_tryCatch (wpAny_bind (wpAny_pure (wpAny_pure fin)))
theorem ne_body {Q : Fin → Shared → Prop} (hu : A.units < cLine) (X : K.In s.heap) (I : InstAt s.heap x ox C od)
    (hq : findIn K (.ref C) "__eq__" = some (some (.ref f))) (hf : isFn K (.ref f) = true)
    (h : wpAny (model prog w) A (call (.ref f) [.ref x, b]) (fun v s' => ∃ c : Bool, v = .bool c ∧ Q (.done (.ret (.bool (!c)))) s') E s) :
    wpAny (model prog w) A (Builtin.«object.__ne__» ⟨[.ref x, b], []⟩) Q E s := by
  unfold Builtin.«object.__ne__»
  refine wpAny_bind (wpAny_of_eq (a := ((Value.ref x : Value), [b])) (by first | rfl | (simp only [slotArgs]; rfl)) ?_)
  refine wpAny_bind (wpAny_cRoomFor hu ?_)
  refine wpAny_bind (ifBound_K X I hq hf (wpAny_mono h (fun v s' hv => ?_) fun _ _ e => e))
  obtain ⟨c, rfl, q⟩ := hv
  show wpAny _ _ (do let r ← truthy (.bool c); ret (.bool (!r))) _ _ _
  exact wpAny_bind (wpAny_truthy_bool (wpAny_pure q))
theorem ne_K {Q : Value → Shared → Prop} (hu : A.units + 1 < cLine) (F : Fr h₀ L s.heap m) (X₀ : K.In h₀)
    (I : InstAt s.heap x ox C od) (hb : Looks (model prog w) s.heap (typeOf b) tb) (hn : notFirst K C tb = true)
    (hs : findIn K (.ref C) "__ne__" = some (some (.builtin "object.__ne__")))
    (ho : mroIn K C (.type "object") = some true)
    (hq : findIn K (.ref C) "__eq__" = some (some (.ref f))) (hf : isFn K (.ref f) = true)
    (h : wpAny (model prog w) A.in1 (call (.ref f) [.ref x, b]) (NeB Q) E s) :
    wpAny (model prog w) A (richCompare .NotEq (.ref x) b) Q E s := by
  have X := X₀.keeps F.keep
  have sub : Looks (model prog w) s.heap (isInstance (.ref x) (.type "object")) true := I.type.andThen (looks_mroIn X ho)
  have one : wpAny (model prog w) A (tryCompare (.ref x) (cmpInfo .NotEq).2.1 b) (fun r s' => ∃ v, r = some v ∧ Q v s') E s := by
    unfold tryCompare
    refine wpAny_bind (boundB X I hs PySem.F.cmp_object.ne (wpAny_call (codeAny_call_builtin PySem.F.cmp_object.ne.plain PySem.F.cmpEntry_ne
      (check_slot PySem.F.cmpKind_ne PySem.F.cmpSplit_ne sub (PySem.F.cmpArgs_ne _ _) (ne_body (A := A.in1) hu X I hq hf ?_)))))
    refine wpAny_mono h (fun v s' hv => ?_) fun _ _ e => e
    obtain ⟨c, rfl, q⟩ := hv
    exact ⟨c, rfl, wpAny_pure ⟨_, rfl, q⟩⟩
  unfold richCompare
  simp only [oneThing_ref]
  refine wpAny_holding (wpAny_bind (wpAny_cRoomFor (Nat.lt_of_succ_lt hu) ?_))
  refine wpAny_bind (I.type.here (wpAny_bind (hb.here ?_)))
  split
  · rename_i q
    have e : subIn K tb (.ref C) = some false := by
      rcases Bool.or_eq_true_iff.mp hn with e | e
      · rw [beq_iff_eq.mp e] at q
        simp at q
      · exact beq_iff_eq.mp e
    refine wpAny_bind ((looks_subIn X e).here ?_)
    simp only [Bool.false_eq_true, if_false]
    refine wpAny_bind (wpAny_mono one (fun r s' z => ?_) fun _ _ e => e)
    obtain ⟨v, rfl, hq⟩ := z
    exact wpAny_pure hq
  · refine wpAny_bind (wpAny_pure ?_)
    simp only [Bool.false_eq_true, if_false]
    refine wpAny_bind (wpAny_mono one (fun r s' z => ?_) fun _ _ e => e)
    obtain ⟨v, rfl, hq⟩ := z
    exact wpAny_pure hq
end
end PySem.W

set_option Elab.async false
set_option linter.all false
set_option maxRecDepth 100000
set_option maxHeartbeats 4000000
namespace Lk
open PySem L2
abbrev s_Machine___eq : Stmt := inClass (top 12) 1
abbrev N_Machine___eq : List Str := ["self", "other"]
abbrev P_Machine___eq : List Str := ["self", "other"]
theorem sc_Machine___eq : FnScope N_Machine___eq P_Machine___eq (defScope s_Machine___eq) := ⟨rfl, rfl, rfl, by decide +kernel, rfl, by decide +kernel, by decide +kernel⟩
/-- what the top says of the class for isinstance and == -/
structure TxE (K : PySem.W.Frag) (mg : Str → Option Value) (C fE : Addr) : Prop where
  g : mg "Machine" = some (.ref C)
  ha : PySem.W.findIn K (.ref C) "__class__" = some (some (.builtin "object.__class__"))
  hn : PySem.W.specialIn K (.builtin "object.__class__") "__get__" = some (some (.builtin "getset_descriptor.__get__"))
  htk : PySem.W.takesIn K (.builtin "object.__class__") = some true
  hm : PySem.W.mroIn K C (.type "object") = some true
  kS : PySem.W.kitOne K (.type "str") (.ref C) = some false
  kT : PySem.W.kitOne K (.type "tuple") (.ref C) = some false
  kC : PySem.W.kitOne K (.ref C) (.ref C) = some true
  sS : PySem.W.subIn K (.type "str") (.ref C) = some false
  sT : PySem.W.subIn K (.type "tuple") (.ref C) = some false
  eq : PySem.W.findIn K (.ref C) "__eq__" = some (some (.ref fE))
  isf : PySem.W.isFn K (.ref fE) = true
  ne : PySem.W.findIn K (.ref C) "__ne__" = some (some (.builtin "object.__ne__"))
/-- the right side of == -/
inductive Rt (C : Addr) (H : Hp) : V → Option (Int × List (Addr × List Int)) → Prop
  | str (z : Str) : Rt C H (.str z) none
  | tup {a : Addr} {xs : List V} (h : H a = some (.tup xs)) : Rt C H (.ref a) none
  | mach {a : Addr} {A : Int} {us : List (Addr × List Int)} (h : MachAt C H a A us) : Rt C H (.ref a) (some (A, us))
def rowsEq (A : Int) (us : List (Addr × List Int)) : Option (Int × List (Addr × List Int)) → Bool
  | none => false
  | some (B, vs) => decide (A = B) && decide (rsOf us = rsOf vs)
def spEqM (CM : Addr) : Sp := fun vs H Q _ => ∃ (m : Addr) (y : V) (A : Int) (us : List (Addr × List Int)) (o : Option (Int × List (Addr × List Int))), vs = [.ref m, y] ∧ MachAt CM H m A us ∧ Rt CM H y o ∧ Q (.bl (rowsEq A us o)) H
def rowP (r : List Int) : PyData := .tuple (r.map PyData.int)
theorem eqv_ints : ∀ a b : List Int, PyData.eqvAll (a.map PyData.int) (b.map PyData.int) = decide (a = b)
  | [], [] => rfl
  | [], _ :: _ => rfl
  | _ :: _, [] => rfl
  | x :: a, y :: b => by
    show ((x == y) && PyData.eqvAll (a.map PyData.int) (b.map PyData.int)) = _
    rw [eqv_ints a b]
    by_cases h : x = y
    · by_cases h2 : a = b
      · rw [h, h2]
        simp
      · rw [decide_eq_false h2, Bool.and_false]
        exact (decide_eq_false fun e => h2 (by injection e)).symm
    · have e : (x == y) = false := by simpa using h
      rw [e, Bool.false_and]
      exact (decide_eq_false fun e => h (by injection e)).symm
theorem eqv_rows : ∀ a b : List (List Int), PyData.eqvAll (a.map rowP) (b.map rowP) = decide (a = b)
  | [], [] => rfl
  | [], _ :: _ => rfl
  | _ :: _, [] => rfl
  | x :: a, y :: b => by
    show (PyData.eqvAll (x.map PyData.int) (y.map PyData.int) && PyData.eqvAll (a.map rowP) (b.map rowP)) = _
    rw [eqv_ints x y, eqv_rows a b]
    by_cases h : x = y
    · by_cases h2 : a = b
      · rw [h, h2]
        simp
      · rw [decide_eq_false h2, Bool.and_false]
        exact (decide_eq_false fun e => h2 (by injection e)).symm
    · rw [decide_eq_false h, Bool.false_and]
      exact (decide_eq_false fun e => h (by injection e)).symm
theorem canLay_rows : ∀ a : List (List Int), PyData.canLayAll0 (a.map rowP) = true
  | [] => rfl
  | x :: a => by
    show (PyData.canLayAll0 (x.map PyData.int) && PyData.canLayAll0 (a.map rowP)) = true
    rw [canLay_ints, canLay_rows a] <;> rfl
theorem depth_rows : ∀ a : List (List Int), PyData.depthAll (a.map rowP) ≤ 2
  | [] => by decide
  | x :: a => by
    have h := depth_rows a
    have h2 := depth_ints x
    show max (PyData.depth (rowP x)) (PyData.depthAll (a.map rowP)) ≤ 2
    have e : PyData.depth (rowP x) = PyData.depthAll (x.map PyData.int) + 1 := rfl
    omega
theorem shaped_rows (a : List (List Int)) : SeqAt.shaped (.tuple (a.map rowP)) = true := by
  have h1 : PyData.canLay0 (.tuple (a.map rowP)) = true := canLay_rows a
  have h2 : PyData.depth (.tuple (a.map rowP)) = PyData.depthAll (a.map rowP) + 1 := rfl
  have h3 := depth_rows a
  unfold SeqAt.shaped
  rw [h1, Bool.true_and]
  exact decide_eq_true (by omega)
theorem dp_rows {K : PySem.W.Frag} {H : Hp} : ∀ {us : List (Addr × List Int)}, (∀ u ∈ us, H u.1 = some (.tup (u.2.map V.int))) → DpAll K H (us.map fun u => V.ref u.1) ((rsOf us).map rowP)
  | [], _ => .nil
  | u :: us, h => .cons (.tup (SqT.of (h u List.mem_cons_self)) (dpAll_ints _)) (dp_rows fun v hv => h v (List.mem_cons_of_mem _ hv))
section
variable {P : Program} {w : World} {K : PySem.W.Frag} {mg : Str → Option Value} {base : Heap} {CM fE : Addr}
theorem ok_eq {f : Addr} {fd : FuncData} (F : Fun K "__eq__" "Machine.__eq__" s_Machine___eq f fd) (T : Txt mg) (TC : TxC K CM) (TE : TxE K mg CM fE) : FnOk P w K mg base CX0 1 f fd P_Machine___eq (spEqM CM) := by
  refine F.ok sc_Machine___eq (fun vs H Q E h => ?_) (fun cdv Ar outer s H vs Q E hr h => ?_)
  · obtain ⟨m, y, A, us, o, rfl, _⟩ := h
    rfl
  · obtain ⟨m, y, A, us, o, rfl, M, R, k⟩ := h
    have hu : Ar.units + 3 + 64 < cLine := by have := hr.un; simp only [Around.deeper] at this; omega
    refine ⟨_, (pss_one (ps_ret (pe_and (pe_callB call_isi (by rfl) T.isinstance PyProof.Rows.boot_isinstance (pa_cons (pv 1) (pa_cons (pe_glob (v := .ref CM) (by rfl) TE.g rfl) pa_nil)))
      (pe_and (pe_cmpR op_eq (pe_fld (pv 0) rfl) (pe_fld (pv 1) rfl) (nomark _)) (pe_one (pe_cmpR (op_eqD hu) (pe_fld (pv 0) rfl) (pe_fld (pv 1) rfl) (nomark _))))))), ?_⟩
    cases R with
    | str z => exact ⟨_, rfl, _, _, _, _, false, rfl, .own _, .base (.str z), TE.kS, false, rfl, iteF k⟩
    | tup h => exact ⟨_, rfl, _, _, _, _, false, rfl, .own _, .base (.tup h), TE.kT, false, rfl, iteF k⟩
    | @mach b B vs h =>
      obtain ⟨dx, t, h1, h2, h3⟩ := M
      obtain ⟨dx', t', h1', h2', h3'⟩ := h
      refine ⟨_, rfl, _, _, _, _, true, rfl, .own _, .base (.ins h1' TC.cl TE.ha TE.hn TE.htk TE.hm), TE.kC, true, rfl, iteT ?_⟩
      refine ⟨_, rfl, m, CM, dx, _, _, rfl, h1, TC.cl, TC.n1, fld_c _ _ _, _, rfl, b, CM, dx', _, _, rfl, h1', TC.cl, TC.n1, fld_c _ _ _, rfl, _, rfl, ?_⟩
      have hk : Q (.bl (decide (A = B) && decide (rsOf us = rsOf vs))) H := k
      by_cases hAB : A = B
      · rw [decide_eq_true hAB, Bool.true_and] at hk
        rw [decide_eq_true (show V.int A = V.int B by rw [hAB])]
        refine iteT ⟨_, rfl, m, CM, dx, _, _, rfl, h1, TC.cl, TC.n3, fld_s _ _ _, _, rfl, b, CM, dx', _, _, rfl, h1', TC.cl, TC.n3, fld_s _ _ _, _, _, Dp.tup (SqT.of h2) (dp_rows h3), Dp.tup (SqT.of h2') (dp_rows h3'), shaped_rows _, shaped_rows _, ?_⟩
        rw [show PyData.eqv (.tuple ((rsOf us).map rowP)) (.tuple ((rsOf vs).map rowP)) = PyData.eqvAll ((rsOf us).map rowP) ((rsOf vs).map rowP) from rfl, eqv_rows]
        exact hk
      · rw [decide_eq_false hAB, Bool.false_and] at hk
        rw [decide_eq_false (show ¬ V.int A = V.int B from fun e => hAB (by injection e))]
        exact iteF hk
/-! ### == and != of machines, as operators -/
def rMq (CM : Addr) (neg : Bool) : R2 := fun x y H Q => ∃ (m : Addr) (A : Int) (us : List (Addr × List Int)) (o : Option (Int × List (Addr × List Int))), x = .ref m ∧ MachAt CM H m A us ∧ Rt CM H y o ∧ Q (.bl (if neg then !(rowsEq A us o) else rowsEq A us o)) H
theorem rt_type {X : Cx} {pins : List (Addr × Obj)} {σ : St} {H : Hp} {s : Shared} {y : V} {v : Value} {o : Option (Int × List (Addr × List Int))} (I : Inv X pins σ H s) (r : RelV y v) (R : Rt CM H y o) (TE : TxE X.K X.mg CM fE) :
    ∃ tb, PySem.W.Looks (model X.prog X.w) s.heap (typeOf v) tb ∧ PySem.W.notFirst X.K CM tb = true := by
  cases R with
  | str z =>
    obtain ⟨t, rfl⟩ := (show ∃ t, v = Value.str z t from r)
    exact ⟨.type "str", .now, by unfold PySem.W.notFirst; rw [TE.sS] <;> rfl⟩
  | @tup a xs h =>
    cases (show v = Value.ref a from r)
    obtain ⟨_, _, _, ob, h1, h2, _⟩ := (show ObjOk X.prog X.w H s.heap a (.tup xs) from I.hok a _ h)
    refine ⟨.type "tuple", fun A Q E s k q => wpAny_typeOf_ref (k _ _ h1) (by rw [h2]; exact q), by unfold PySem.W.notFirst; rw [TE.sT] <;> rfl⟩
  | @mach a A us h =>
    cases (show v = Value.ref a from r)
    obtain ⟨dx, t, h1, _⟩ := h
    obtain ⟨mA, J, _⟩ := ins_get I.hok h1
    obtain ⟨od, J, _⟩ := J.look
    exact ⟨.ref CM, J.type, by simp [PySem.W.notFirst]⟩
section
variable {X : Cx} {f : Addr} {fd : FuncData} {ps : List Str}
theorem run_eq {A : Around} {pins : List (Addr × Obj)} {σ : St} {H : Hp} {s : Shared} {m : Addr} {y : V} {v : Value} {M : Int} {us : List (Addr × List Int)} {o : Option (Int × List (Addr × List Int))} {Q : VK} (F : FnOk X.prog X.w X.K X.mg X.base CX0 1 fE fd P_Machine___eq (spEqM CM)) (hb : Binds X.K fd P_Machine___eq [])
    (hr : Room 1 A) (hfr : A.frames = X.A.frames) (I : Inv X pins σ H s) (r : RelV y v) (MA : MachAt CM H m M us) (R : Rt CM H y o) (q : Q (.bl (rowsEq M us o)) H) :
    wpAny (model X.prog X.w) A (call (.ref fE) [.ref m, v]) (fun u s' => u = .bool (rowsEq M us o) ∧ ∃ H', Inv X pins σ H' s' ∧ Q (.bl (rowsEq M us o)) H') X.xe s := by
  have hsp : spEqM CM [.ref m, y] H (fun z H' => z = .bl (rowsEq M us o) ∧ Q (.bl (rowsEq M us o)) H') (fun _ _ _ => False) := ⟨m, y, M, us, o, rfl, MA, R, rfl, q⟩
  have e0 : Env0 X.prog X.w X.K X.mg X.base A X.stack s H := by
    have e := I.env0
    exact ⟨by rw [hfr]; exact e.frames, e.mod, e.bs, e.bsz, e.funs, e.frf, e.hok, e.bare⟩
  have r2 : Vals [V.ref m, y] [Value.ref m, v] := .cons rfl (.cons r .nil)
  refine wpAny_call (codeAny_mono (F.run A X.stack s H ⟨[.ref m, v], []⟩ [.ref m, v] [.ref m, y] _ _ hr e0 (by
    have := hb s [.ref m, v] I.kIn (by rfl)
    simpa using this) r2 hsp) fun r s' hq => ?_)
  cases r with
  | error e => exact False.elim hq
  | ok fl =>
    cases fl with
    | ret u =>
      obtain ⟨z, H', I', rz, ez, ex⟩ := I.after hq
      subst ez
      cases rz
      exact ⟨rfl, H', I', ex⟩
    | next => exact False.elim hq
    | brk => exact False.elim hq
    | cont => exact False.elim hq
theorem op_eqM (F : FnOk X.prog X.w X.K X.mg X.base CX0 1 fE fd P_Machine___eq (spEqM CM)) (hb : Binds X.K fd P_Machine___eq []) (TE : TxE X.K X.mg CM fE) (hr : Room 1 X.A) : OpR X (compareOp .Eq) (rMq CM false) := by
  intro pins s σ H x y v u Q I rx ry h
  obtain ⟨m, A, us, o, rfl, M, R, q⟩ := h
  cases (show v = Value.ref m from rx)
  obtain ⟨tb, ht, hn⟩ := rt_type I ry R TE
  obtain ⟨dx, t, h1, _⟩ := id M
  obtain ⟨mA, J, _⟩ := ins_get I.hok h1
  obtain ⟨od, J, _⟩ := J.look
  obtain ⟨mm, hF⟩ := I.fr
  refine PySem.W.cmp_ofEq (PySem.W.cmp_K (op := .Eq) (tb := tb) hr.units0 hF I.ok.mod.kin J ht hn TE.eq TE.isf ?_)
  refine wpAny_mono (run_eq F hb hr rfl I ry M R q) (fun u s' hu => ?_) fun _ _ z => z
  obtain ⟨rfl, H', I', q'⟩ := hu
  exact ⟨.bl _, H', I', rfl, q'⟩
theorem op_neM (F : FnOk X.prog X.w X.K X.mg X.base CX0 1 fE fd P_Machine___eq (spEqM CM)) (hb : Binds X.K fd P_Machine___eq []) (TE : TxE X.K X.mg CM fE) (hr : Room 2 X.A) : OpR X (compareOp .NotEq) (rMq CM true) := by
  intro pins s σ H x y v u Q I rx ry h
  obtain ⟨m, A, us, o, rfl, M, R, q⟩ := h
  cases (show v = Value.ref m from rx)
  obtain ⟨tb, ht, hn⟩ := rt_type I ry R TE
  obtain ⟨dx, t, h1, _⟩ := id M
  obtain ⟨mA, J, _⟩ := ins_get I.hok h1
  obtain ⟨od, J, _⟩ := J.look
  obtain ⟨mm, hF⟩ := I.fr
  have hu := hr.un
  have hr1 : Room 1 X.A.in1 := ⟨hr.hd, by have := hr.dp; show X.A.depth + 3 * 1 + 5 < _; omega, by show X.A.units + 1 + 16 * 1 + 200 < cLine; omega⟩
  refine PySem.W.cmp_ofNotEq (PySem.W.ne_K (tb := tb) (by omega) hF I.ok.mod.kin J ht hn TE.ne TE.hm TE.eq TE.isf ?_)
  refine wpAny_mono (run_eq (Q := fun z H' => Q (.bl (!(rowsEq A us o))) H') F hb hr1 rfl I ry M R q) (fun u s' hu => ?_) fun _ _ z => z
  obtain ⟨rfl, H', I', q'⟩ := hu
  exact ⟨_, rfl, .bl _, H', I', rfl, q'⟩
end
end
end Lk

set_option Elab.async false
set_option linter.all false
set_option maxRecDepth 100000
set_option maxHeartbeats 4000000
namespace Lk
open PySem L2
/-! ### what a machine is made of -/
theorem dvAll_ints {H : Hp} : ∀ ns : List Int, DvAll H (ns.map V.int) (ns.map PyData.int)
  | [] => .nil
  | _ :: ns => .cons (.int _) (dvAll_ints ns)
def lstP (r : List Int) : PyData := .list (r.map PyData.int)
theorem dv_rowsL {H : Hp} : ∀ {ts : List (Addr × List Int)}, (∀ t ∈ ts, H t.1 = some (.lst (t.2.map V.int))) → DvAll H (ts.map fun t => V.ref t.1) ((rsOf ts).map lstP)
  | [], _ => .nil
  | t :: ts, h => .cons (.lst (h t List.mem_cons_self) (dvAll_ints _)) (dv_rowsL fun u hu => h u (List.mem_cons_of_mem _ hu))
theorem dv_rowsT {H : Hp} : ∀ {ts : List (Addr × List Int)}, (∀ t ∈ ts, H t.1 = some (.tup (t.2.map V.int))) → DvAll H (ts.map fun t => V.ref t.1) ((rsOf ts).map rowP)
  | [], _ => .nil
  | t :: ts, h => .cons (.tup (h t List.mem_cons_self) (dvAll_ints _)) (dv_rowsT fun u hu => h u (List.mem_cons_of_mem _ hu))
theorem isB_ints {n : Int} : ∀ {r : List Int}, (∀ z ∈ r, 0 ≤ z ∧ z < n) → (r.map PyData.int).all (isB n) = true
  | [], _ => rfl
  | z :: r, h => by
    obtain ⟨h0, h1⟩ := h z List.mem_cons_self
    have e : isB n (.int z) = true := by
      show (decide (0 ≤ z) && decide (z < n)) = true
      rw [decide_eq_true h0, decide_eq_true h1] <;> rfl
    rw [List.map_cons, List.all_cons, e, isB_ints fun y hy => h y (List.mem_cons_of_mem _ hy)] <;> rfl
theorem intD_ints : ∀ r : List Int, (r.map PyData.int).map intD = r
  | [] => rfl
  | z :: r => by
    rw [List.map_cons, List.map_cons, intD_ints r] <;> rfl
theorem isE_lst {A : Nat} {n : Int} {r : List Int} (h : r.length = A ∧ ∀ z ∈ r, 0 ≤ z ∧ z < n) : isE A n (lstP r) = true := by
  show (true && (decide (((r.map PyData.int).length : Int) = A) && (r.map PyData.int).all (isB n))) = true
  rw [isB_ints h.2, List.length_map, h.1]
  simp
theorem isE_tup {A : Nat} {n : Int} {r : List Int} (h : r.length = A ∧ ∀ z ∈ r, 0 ≤ z ∧ z < n) : isE A n (rowP r) = true := by
  show (true && (decide (((r.map PyData.int).length : Int) = A) && (r.map PyData.int).all (isB n))) = true
  rw [isB_ints h.2, List.length_map, h.1]
  simp
theorem badAt_all {A n : Int} : ∀ {ds : List PyData} {i : Nat}, (∀ e ∈ ds, isE A n e = true) → badAt A n ds i = none
  | [], _, _ => rfl
  | d :: ds, i, h => by
    rw [badAt_cons, if_pos (h d List.mem_cons_self)]
    exact badAt_all fun e he => h e (List.mem_cons_of_mem _ he)
theorem stepsRes_ok {A : Int} {d : PyData} (h1 : isS d = true) (h2 : itemsD d ≠ []) (h3 : ∀ e ∈ itemsD d, isE A ((itemsD d).length : Int) e = true) : stepsRes A d = none := by
  unfold stepsRes
  rw [if_neg (fun q => q.elim (fun e => by rw [h1] at e; cases e) h2), badAt_all h3] <;> rfl
/-- rows, each as a list or a tuple -/
theorem stepsRes_rows {A : Nat} {rs : List (List Int)} {d : PyData} {g : List Int → PyData} (h1 : isS d = true) (h2 : itemsD d = rs.map g) (hg : ∀ (n : Int) r, r.length = A ∧ (∀ z ∈ r, 0 ≤ z ∧ z < n) → isE A n (g r) = true) (x : Rs A rs) : stepsRes A d = none := by
  refine stepsRes_ok h1 (fun e => ?_) fun e he => ?_
  · rw [h2] at e
    have := x.pos
    rw [List.map_eq_nil_iff.mp e] at this
    exact absurd this (by decide)
  · rw [h2] at he ⊢
    obtain ⟨r, hr, rfl⟩ := List.mem_map.mp he
    rw [List.length_map]
    exact hg _ r (x.row r hr)
/-- what Machine(..) makes: the number of the refusal -/
def makeRes (dc ds : PyData) : Option Int := if badC dc = true then some 0 else stepsRes (intD dc) ds
theorem make_any {CM CE : Addr} {H1 : Hp} {x y : V} {dc ds : PyData} {Q : Addr → Hp → Prop} {E : XK} (Dx : Dv H1 x dc) (Dy : Dv H1 y ds) (n1 : (itemsD ds).length ≤ 1000) (n2 : ∀ e ∈ itemsD ds, (itemsD e).length ≤ 1000)
    (h : match makeRes dc ds with
      | some k => ∀ H' q, Same H1 H' → H' q = none → E (.ref CE) (some q) (upd H' q (.xd [(("at" : Str), .int k)]))
      | none => ∀ H' m us, Same H1 H' → H1 m = none → MachAt CM H' m (intD dc) us → rsOf us = (itemsD ds).map rowD → Q m H') :
    ∀ x0 dx, H1 x0 = none → H1 dx = none → dx ≠ x0 → spInit CM CE (.ref x0 :: ([x, y] ++ [])) (upd (upd H1 dx (.own x0)) x0 (.ins CM dx [])) (fun v H2 => v = .non ∧ Q x0 H2) E := by
  intro x0 dx h0 hd hne
  have hx0 : upd H1 dx (.own x0) x0 = none := by rw [upd_ne (Ne.symm hne)]; exact h0
  have S1 : Same H1 (upd (upd H1 dx (.own x0)) x0 (.ins CM dx [])) := (Same.new hd).trans (Same.new hx0)
  refine ⟨x0, dx, x, y, dc, ds, rfl, upd_same, Dx.same S1, Dy.same S1, n1, n2, fun hb => ?_, fun hb A hA => ?_⟩
  · unfold makeRes at h
    rw [if_pos hb] at h
    exact fun H' d S' hd' => h H' d (S1.trans S') hd'
  · subst hA
    unfold makeRes at h
    rw [if_neg (by rw [hb]; decide)] at h
    have eA : intD (.int A) = A := rfl
    rw [eA] at h
    cases e : stepsRes A ds with
    | some k =>
      rw [e] at h
      exact fun H' d S' hd' => h H' d (S1.trans S') hd'
    | none =>
      rw [e] at h
      refine fun H' us kp M eR => ⟨rfl, h H' x0 us (fun a o ha => kp.get (fun q => ?_) (S1 a o ha)) h0 M eR⟩
      rw [q, h0] at ha
      cases ha
theorem pass_never {P : Program} {w : World} {X : Cx} : Passes (L2.CX P w) X E0 := fun _ _ _ _ _ _ _ ⟨_, _, _, _, _, _, _, _, _, _, _, _, he⟩ => he.elim
theorem rowD_lst (r : List Int) : rowD (lstP r) = r := intD_ints r
theorem rowD_tup (r : List Int) : rowD (rowP r) = r := intD_ints r
theorem map_rowD {g : List Int → PyData} (hg : ∀ r, rowD (g r) = r) : ∀ rs : List (List Int), (rs.map g).map rowD = rs
  | [] => rfl
  | r :: rs => by rw [List.map_cons, List.map_cons, hg, map_rowD hg rs]
/-! ### beside -/
/-- the rows of two machines side by side; rs: the rows of the first so far -/
def bR (rs2 : List (List Int)) (e f : List Int) : List Int := List.zipWith (fun s t => s * (rs2.length : Int) + t) e f
def bG' (rs2 rs : List (List Int)) : List (List Int) := rs.flatMap fun e => rs2.map (bR rs2 e)
def bG (rs1 rs2 : List (List Int)) : List (List Int) := bG' rs2 rs1
theorem Rs.beside {A : Nat} {rs1 rs2 : List (List Int)} (x : Rs A rs1) (y : Rs A rs2) : (bG rs1 rs2).length = rs1.length * rs2.length ∧ Rs A (bG rs1 rs2) := by
  have hl : (bG rs1 rs2).length = rs1.length * rs2.length := by
    unfold bG bG'
    rw [List.length_flatMap]
    simp only [List.length_map]
    rw [List.map_const', List.sum_replicate_nat]
  refine ⟨hl, by rw [hl]; exact Nat.mul_pos x.pos y.pos, fun r hr => ?_⟩
  obtain ⟨e, he, hr⟩ := List.mem_flatMap.mp hr
  obtain ⟨f, hf, rfl⟩ := List.mem_map.mp hr
  obtain ⟨e1, e2⟩ := x.row e he
  obtain ⟨f1, f2⟩ := y.row f hf
  unfold bR
  refine ⟨by rw [List.length_zipWith, e1, f1, Nat.min_self], fun z hz => ?_⟩
  obtain ⟨i, hi, rfl⟩ := List.mem_iff_getElem.mp hz
  rw [List.length_zipWith] at hi
  rw [List.getElem_zipWith, hl]
  obtain ⟨a0, a1⟩ := e2 _ (List.getElem_mem (l := e) (n := i) (by omega))
  obtain ⟨b0, b1⟩ := f2 _ (List.getElem_mem (l := f) (n := i) (by omega))
  have q1 := Int.mul_nonneg a0 (Int.natCast_nonneg rs2.length)
  have q2 : (e[i] + 1) * (rs2.length : Int) ≤ (rs1.length : Int) * (rs2.length : Int) := Int.mul_le_mul_of_nonneg_right (by omega) (by omega)
  rw [Int.add_mul] at q2
  refine ⟨by omega, ?_⟩
  rw [Int.natCast_mul]
  omega
section
variable {K : PySem.W.Frag} {te : TE} {σ : St} {H1 : Hp} {D : Addr} {Qd : Hp → Prop}
/-- a comprehension over zip of two tuples of ints of one length, into slots 5 and 6 -/
theorem lcZ {i j : Nat} {a b : Addr} {xs ys : List Int} (F : Int → Int → Int) (hl : xs.length = ys.length) (hD : H1 D = none) (hn : xs.length ≤ 1000000) (ha : SqT K H1 a (xs.map V.int)) (hb : SqT K H1 b (ys.map V.int))
    (hw : ∀ x y : V, wipe (((wipe σ [i, j]).set i (some x)).set j (some y)) [i, j] = wipe σ [i, j])
    (hs : ∀ (x y : Int) H, Same H1 H → ∀ Q : VK, (∀ H4, Same H H4 → Q (.int (F x y)) H4) → te (((wipe σ [i, j]).set i (some (.int x))).set j (some (.int y))) H Q)
    (hd : ∀ H', H' D = some (.lst ((List.zipWith F xs ys).map V.int)) → Same H1 H' → Qd H') :
    ∃ W : Nat → Nat → Hp → Prop, (∃ m, W 0 m (upd H1 D (.lst []))) ∧ ∀ k m H, W k m H →
      ((RZ.ItzT K a b).stop k H ∧ Qd H) ∨ ((RZ.ItzT K a b).go k H ∧ ∃ Nx : Hp → Prop, (∀ H', Nx H' → ∃ m', m' < m ∧ W (k + 1) m' H') ∧ ∀ x H', (RZ.ItzT K a b).yld k H x H' → gTup K 2 (gCons (gName i) (gCons (gName j) gNil)) x (wipe σ [i, j]) H' fun σ2 H2 => wipe σ2 [i, j] = wipe σ [i, j] ∧ tYes σ2 H2 fun b H3 =>
        if b = true then te σ2 H3 fun y H4 => ∃ acc, H4 D = some (.lst acc) ∧ acc.length < sizeLine ∧ Nx (upd H4 D (.lst (acc ++ [y]))) else Nx H3) := by
  refine ⟨fun k m H => m = xs.length - k ∧ k ≤ xs.length ∧ Same H1 H ∧ H D = some (.lst ((List.zipWith F (xs.take k) (ys.take k)).map V.int)), ⟨xs.length, rfl, Nat.zero_le _, (KP.new (S := fun _ => False) hD).toSame, upd_same⟩, ?_⟩
  rintro k m H ⟨rfl, hk, S, hD2⟩
  have qa := sameT S ha
  have qb := sameT S hb
  by_cases hlt : k < xs.length
  · have hlt2 : k < ys.length := by omega
    have ga : (xs.map V.int)[k]? = some (V.int xs[k]) := by rw [List.getElem?_map, List.getElem?_eq_getElem hlt] <;> rfl
    have gb : (ys.map V.int)[k]? = some (V.int ys[k]) := by rw [List.getElem?_map, List.getElem?_eq_getElem hlt2] <;> rfl
    refine .inr ⟨⟨_, _, _, _, qa, qb, ga, gb⟩, fun H => Same H1 H ∧ H D = some (.lst ((List.zipWith F (xs.take (k + 1)) (ys.take (k + 1))).map V.int)), fun H' p => ⟨xs.length - (k + 1), by omega, rfl, hlt, p.1, p.2⟩, ?_⟩
    rintro v H' ⟨T, x, y, rfl, hT, rfl, f1, f2⟩
    have ex := f1 _ qa
    rw [ga] at ex
    obtain rfl := Option.some.inj ex
    have ey := f2 _ qb
    rw [gb] at ey
    obtain rfl := Option.some.inj ey
    have ST : Same H (upd H T (.tup [V.int xs[k], V.int ys[k]])) := Same.new hT
    refine ⟨T, _, rfl, SqT.of upd_same, rfl, _, _, rfl, _, _, rfl, rfl, hw _ _, iteT (B := Same H1 (upd H T (.tup [V.int xs[k], V.int ys[k]])) ∧ (upd H T (.tup [V.int xs[k], V.int ys[k]])) D = some (.lst ((List.zipWith F (xs.take (k + 1)) (ys.take (k + 1))).map V.int))) ?_⟩
    refine hs _ _ _ (S.trans ST) _ fun H4 S4 => ⟨_, S4 _ _ (ST _ _ hD2), ?_, ((KP.same (S := fun _ => False) ((S.trans ST).trans S4)).mut hD).toSame, ?_⟩
    · rw [List.length_map, List.length_zipWith, List.length_take, List.length_take]
      exact Nat.lt_of_le_of_lt (show _ ≤ 1000000 by omega) (by decide)
    · rw [upd_same, take_next (List.getElem?_eq_getElem hlt), take_next (List.getElem?_eq_getElem hlt2), List.zipWith_append (by rw [List.length_take, List.length_take, hl]), List.map_append]
      rfl
  · have e : k = xs.length := by omega
    subst e
    refine .inl ⟨⟨_, _, qa, qb, .inl (by rw [List.length_map]; exact Nat.le_refl _)⟩, hd H ?_ S⟩
    rw [List.take_length, hl, List.take_length] at hD2
    exact hD2
end
section
variable {P : Program} {w : World} {K : PySem.W.Frag} {mg : Str → Option Value} {base : Heap} {CM CR CE : Addr}
def spBeside (CM CR : Addr) : Sp := fun vs H Q E => ∃ (m1 m2 : Addr) (A B : Int) (us ws : List (Addr × List Int)), vs = [.ref m1, .ref m2] ∧ MachAt CM H m1 A us ∧ MOk A us ∧ MachAt CM H m2 B ws ∧ MOk B ws ∧ us.length * ws.length ≤ 1000 ∧
  (A ≠ B → ∀ H' q, Same H H' → H' q = none → E (.ref CR) (some q) (upd H' q (.xd [(("at" : Str), .int 0)]))) ∧
  (A = B → ∀ H' m xs, Same H H' → H m = none → MachAt CM H' m A xs → rsOf xs = bG (rsOf us) (rsOf ws) → Q (.ref m) H')
end
end Lk

set_option Elab.async false
set_option linter.all false
set_option maxRecDepth 100000
set_option maxHeartbeats 4000000
/-! a try of which each clause binds the exception: several of them -/
namespace Lk
open PySem PySem.Spec PyProof.Rows L2
/-- the ends of a suite behind which the slot is empty again -/
def endsAs (i : Nat) (D : Ends) : Ends := { nx := fun σ' H' => D.nx (σ'.set i none) H', rt := D.rt, bk := fun σ' H' => D.bk (σ'.set i none) H', ct := fun σ' H' => D.ct (σ'.set i none) H' }
abbrev Suit := Addr → Value → Option Addr → TS
/-- what the clauses ask of an exception of the class cls: the first that takes it gets it into slot i -/
def wAll (K : PySem.W.Frag) (i : Nat) (Wo : WX) (D : Ends) : List (Value × Suit) → WX
  | [] => Wo
  | q :: r => fun cls d σ H => ∃ b, PySem.W.exmOne K cls q.1 = some b ∧ (if b = true then ∀ a, H a = none → q.2 a cls d (endsAs i D) (σ.set i (some (.ref a))) H else wAll K i Wo D r cls d σ H)
section
variable {X : Cx} {i : Nat} {n : Str}
/-- the clauses of the text, each with what its suite does -/
inductive Clauses (X : Cx) (n : Str) : List ExceptHandler → List (Value × Suit) → Prop
  | nil : Clauses X n [] []
  | cons {x : Str} {c : Value} {ts : Suit} {b : Stmt} {bs : List Stmt} {p1 p2 : Pos} {hs : List ExceptHandler} {l : List (Value × Suit)} (nm : Names X x c)
      (su : ∀ a oe cls d pn, Zc cls d oe → (∃ vs, oe.data = .fields vs) → PSs (X.suite a ((a, oe) :: pn)) (b :: bs) (ts a cls d)) (tl : Clauses X n hs l) :
      Clauses X n (.ExceptHandler (some (.Name x p1)) (some n) (b :: bs) p2 :: hs) ((c, ts) :: l)
/-- an exception at a has been noted, and stands on the ground: sI the state it left -/
structure Ground (X : Cx) (pins : List (Addr × Obj)) (σ : L2.St) (H : Hp) (cls : Value) (d : Option Addr) (a : Addr) (B : Heap) (sI s : Shared) : Prop where
  inv : Inv X pins σ H sI
  keep : ∀ b o, sI.heap.get? b = some o → b ∉ frs X.stack → B.get? b = some o
  up : sI.heap.UpToSlots s.heap
  fl : HandSPX.FlyingZ B (X.env :: X.outer) a (Zc cls d) s.heap
  fresh : H a = none
  os : s.os = sI.os
  bare : AllBare s.gens
theorem Ground.now {pins : List (Addr × Obj)} {σ : L2.St} {H : Hp} {cls : Value} {d : Option Addr} {a : Addr} {B : Heap} {sI s : Shared} (hs : X.stack = X.env :: X.outer) (g : Ground X pins σ H cls d a B sI s) : Inv X pins σ H s :=
  g.inv.landed g.keep g.fl.1 g.up g.os g.bare
/-- it lies in none of the frames -/
theorem Ground.off {pins : List (Addr × Obj)} {σ : L2.St} {H : Hp} {cls : Value} {d : Option Addr} {a : Addr} {B : Heap} {sI s : Shared} (hf : X.env.frame = some X.env.locals) (g : Ground X pins σ H cls d a B sI s) : a ≠ X.env.locals ∧ a ∉ X.fs := by
  obtain ⟨oe, vs, he, hz, hd⟩ := g.fl.there
  have no : a ∉ frs (X.env :: X.outer) := fun m => by
    obtain ⟨_, o2, e2, k⟩ := g.fl.2.2.1.mem m
    rw [he] at e2
    exact k vs ((Option.some.inj e2) ▸ hd)
  refine ⟨fun z => no (List.mem_filterMap.mpr ⟨X.env, List.mem_cons_self, by rw [hf, z]⟩), fun m => ?_⟩
  obtain ⟨e, he2, q⟩ := List.mem_filterMap.mp m
  exact no (List.mem_filterMap.mpr ⟨e, List.mem_cons_of_mem _ he2, q⟩)
theorem ground_all {pins : List (Addr × Obj)} {σ : L2.St} {H : Hp} {cls : Value} {d : Option Addr} {a : Addr} {B : Heap} {sI s : Shared} {D : Ends} {Wo : WX} (hs : X.stack = X.env :: X.outer) (hf : X.env.frame = some X.env.locals) (hN : X.N.Nodup) (hi : X.N[i]? = some n)
    (hl : X.env.kindOf n = some .local) (tk : Takes X Wo) (ok : X.calm = true → X.A.handled = none) (g : Ground X pins σ H cls d a B sI s) : ∀ {hds : List ExceptHandler} {l : List (Value × Suit)}, Clauses X n hds l → wAll X.K i Wo D l cls d σ H →
    wpAny (model X.prog X.w) X.A (handleBy (.ref a) X.env hds) (SP X pins D) X.xe s := by
  have I3 := g.now hs
  obtain ⟨oL, oF⟩ := g.off hf
  obtain ⟨oe, vs, he, hz, hd⟩ := g.fl.there
  have lk : PySem.W.Looks (model X.prog X.w) s.heap (typeOf (.ref a)) cls := fun A Q E s k q => wpAny_typeOf_ref (k _ _ he) (by rw [hz.1]; exact q)
  intro hds l cl
  induction cl with
  | nil =>
    intro w
    obtain ⟨_, _, _, ox, ws, T, oT, tT, ex, zx, dx, h1, hr⟩ := id g.fl
    refine wpAny_handleBy_nil ?_
    unfold PySem.passOn
    refine wpAny_bind (wpAny_field ex dx h1 ?_)
    rw [if_neg (show ¬ ((Value.ref T == Value.none) = true) by simp)]
    have last : wpAny (model X.prog X.w) X.A (setFlight (.ref a) X.env.frame) (fun _ z => wpAny (model X.prog X.w) X.A (throw (.ref a) : Sem Flow) (SP X pins D) X.xe z) X.xe s := by
      rw [hf]
      exact HandSPX.setFlight_upZ g.fl fun h4 q4 up4 => wpAny_throw (tk _ _ ⟨a, B, sI, pins, σ, H, cls, d, rfl, g.inv, g.keep, g.up.trans up4, .inr (.inr (by rw [hs]; exact q4)), g.fresh, g.os, g.bare, w⟩)
    first
      | exact wpAny_bind (wpAny_pure (wpAny_bind last))
      | exact wpAny_bind last
  | @cons x c ts b bs p1 p2 hs2 l2 nm su tl ih =>
    intro w
    obtain ⟨t, ht, w⟩ := w
    refine wpAny_handleBy_cons (codeAny_handlers_test ?_) (by intro q; cases q)
    have SI := I3.suite he hd g.fresh oL oF
    have read : ∀ {Q : Value → Shared → Prop} {E : Value → Shared → Prop}, Q c s → wpAny (model X.prog X.w) (X.A.mark (some (.ref a))) (eval (.Name x p1) X.env) Q E s := fun {Q E} q => by
      obtain ⟨k1, k2, k3 | ⟨k3, k4, k5⟩⟩ := nm
      · exact ld_glob (X := X.suite a ((a, oe) :: (X.pn ++ pins))) SI k1 k3 q k2
      · exact ld_blt (X := X.suite a ((a, oe) :: (X.pn ++ pins))) SI k1 k3 k4 q k5 k2
    refine read ((PySem.W.exm_one (M := model X.prog X.w) I3.kIn lk ht).here ?_)
    cases t with
    | false => exact ih w
    | true =>
      refine codeAny_handlers_suite_as (HandSPX.lands_againZ g.fl fun h4 fl4 up4 => ?_)
      have I4 : Inv X pins σ H { s with heap := h4 } := g.inv.landed g.keep fl4.1 (g.up.trans up4) g.os g.bare
      obtain ⟨o4, vs4, he4, hz4, hd4⟩ := fl4.there
      refine store_ok (X := X.suite a ((a, o4) :: (X.pn ++ pins))) (v := .ref a) (I4.suite he4 hd4 g.fresh oL oF) hN hi (.inl hl) rfl (fun s5 I5 => ?_) (.inr hl)
      refine wpAny_mono ((su a o4 cls d (X.pn ++ pins) hz4 ⟨_, hd4⟩).run [] s5 _ H _ I5 (w a g.fresh)) (fun f s6 q6 => ?_) (fun _ _ z => False.elim z)
      have gone : ∀ {σ6 : L2.St} {H6 : Hp} {Q : Shared → Prop}, Inv (X.suite a ((a, o4) :: (X.pn ++ pins))) [] σ6 H6 s6 → (∀ s7, Inv X pins (σ6.set i none) H6 s7 → Q s7) → wpAny (model X.prog X.w) X.A (do bindName X.env n .none; unbindBehindTheSuite X.env n p2) (fun _ s7 => Q s7) X.xe s6 :=
        fun {σ6 H6 Q} I6 k => gone_ok (I6.unsuite I3.ok) hN hi hl k
      cases f with
      | ret u =>
        obtain ⟨v6, σ6, H6, I6, r6, z6⟩ := q6
        exact gone I6 fun s7 I7 => ⟨_, _, _, I7, r6, z6⟩
      | next =>
        obtain ⟨σ6, H6, I6, z6⟩ := q6
        exact gone I6 fun s7 I7 => ⟨_, _, I7, z6⟩
      | cont =>
        obtain ⟨σ6, H6, I6, z6⟩ := q6
        exact gone I6 fun s7 I7 => ⟨_, _, I7, z6⟩
      | brk =>
        obtain ⟨σ6, H6, I6, z6⟩ := q6
        exact gone I6 fun s7 I7 => ⟨_, _, I7, z6⟩
theorem ps_try_all {body : List Stmt} {h0 : ExceptHandler} {hds : List ExceptHandler} {l : List (Value × Suit)} {pos : Pos} {tb : WX → TS} {Wo : WX} (hs : X.stack = X.env :: X.outer) (hf : X.env.frame = some X.env.locals) (hN : X.N.Nodup) (hi : X.N[i]? = some n) (hl : X.env.kindOf n = some .local) (tk : Takes X Wo)
    (hb : ∀ W pn xe, Takes (X.tr pn xe) W → PassesOwn (model X.prog X.w) X.A X.env xe → PSs (X.tr pn xe) body (tb W)) (cl : Clauses X n (h0 :: hds) l) : PS X (.Try body (h0 :: hds) [] [] pos) (fun D σ H => tb (wAll X.K i Wo D l) D σ H) := by
  refine ⟨fun pins s σ H D I h => wpAny_Try_except ?_⟩
  have ok := I.ok
  refine wpAny_mono ((hb (wAll X.K i Wo D l) (X.pn ++ pins) (fun e z1 => wpAny (model X.prog X.w) X.A (noteFrame e X.env) (fun _ z2 => wpAny (model X.prog X.w) X.A (setFlight e none) (fun _ z3 => wpAny (model X.prog X.w) X.A (handleBy e X.env (h0 :: hds)) (SP X pins D) X.xe z3) X.xe z2) X.xe z1)
    (fun u z xx => ?_) PassesOwn.looking).run [] s σ H D (I.toTry _) h) (fun f z q => ?_) (fun e z he => he)
  · obtain ⟨a, B, sI, _, σ2, H2, cls, d, rfl, I2, nb, up, sky, na, os, ag, w⟩ := xx
    refine Sky.land Zc.steady (show X.A.frames = some (X.env :: X.outer) by rw [ok.frames, hs]) hf (by rw [← hs]; exact sky) fun h3 fl3 up3 => ?_
    exact ground_all (s := { z with heap := h3 }) hs hf hN hi hl tk (fun hc => ok.hd hc) ⟨I2.ofTry ok, nb, up.trans up3, fl3, na, os, ag⟩ cl w
  · cases f with
    | ret u =>
      obtain ⟨v, σ2, H2, I2, r, k⟩ := q
      exact ⟨v, σ2, H2, I2.ofTry ok, r, k⟩
    | next =>
      obtain ⟨σ2, H2, I2, k⟩ := q
      exact wpAny_execs_nil ⟨σ2, H2, I2.ofTry ok, k⟩
    | cont =>
      obtain ⟨σ2, H2, I2, k⟩ := q
      exact ⟨σ2, H2, I2.ofTry ok, k⟩
    | brk =>
      obtain ⟨σ2, H2, I2, k⟩ := q
      exact ⟨σ2, H2, I2.ofTry ok, k⟩
end
end Lk

set_option Elab.async false
set_option linter.all false
set_option maxRecDepth 100000
set_option maxHeartbeats 4000000
namespace Lk
open PySem L2
/-! ### calls by keywords alone, that may raise -/
theorem Vals.rev : ∀ {xs : List V} {us : List Value}, Vals xs us → Vals xs.reverse us.reverse
  | _, _, .nil => .nil
  | x :: xs, u :: us, .cons r t => by
    rw [List.reverse_cons, List.reverse_cons]
    exact (Vals.rev t).append (.cons r .nil)
/-- the keywords stand in the reverse order of the parameters -/
theorem kbn_rev {K : PySem.W.Frag} {x qual : Str} {st : Stmt} {f : Addr} {fd : FuncData} {ps ks : List Str} {n : Nat} (F : Fun K x qual st f fd)
    (h : ∀ (kV doc pm : Value) (an : Option Addr) (cdv ct : Value) (us ws : List Value), us.length = n → ws.length = ks.length → bindArgs (PySem.W.fnOf x qual (defArgs st) (defBody st) (defScope st) .none kV doc pm an cdv ct) ⟨us, ks.zip ws⟩ = pure (ps.zip (us ++ ws.reverse))) :
    KBn K fd ps n ks (fun us ws => us ++ ws.reverse) (fun vs zs => vs ++ zs.reverse) := by
  obtain ⟨oc, od, kV, doc, pm, an, cdv, ct, osl, rfl, lk, hcd⟩ := F.ex
  exact ⟨fun s us ws _ l1 l2 => .of_eq (h kV doc pm an cdv ct us ws l1 l2), fun r1 r2 => r1.append (Vals.rev r2)⟩
section
variable {X : Cx} {CX : CXT} {k : Nat} {f C : Addr} {fd : FuncData} {ps ks : List Str} {sp : Sp} {E : St → XK} {x : Str} {p pos : Pos} {kws : List Keyword} {tk : TA} {g : List Value → List Value → List Value} {gV : List V → List V → List V}
def tKw (sp : Sp) (gV : List V → List V → List V) (m : Nat) (E : St → XK) (tk : TA) : TE := fun σ H Q => tk σ H fun zs H2 => zs.length = m ∧ sp (gV [] zs) H2 Q (E σ)
def tMkKw (C : Addr) (sp : Sp) (gV : List V → List V → List V) (m : Nat) (E : St → XK) (tk : TA) : TE := fun σ H Q => tk σ H fun zs H2 => zs.length = m ∧ ∀ x dx, H2 x = none → H2 dx = none → dx ≠ x →
  sp (gV [.ref x] zs) (upd (upd H2 dx (.own x)) x (.ins C dx [])) (fun v H3 => v = .non ∧ Q (.ref x) H3) (E σ)
theorem pe_kw (G : FnOk X.prog X.w X.K X.mg X.base CX k f fd ps sp) (room : Room k X.A) (gx : Gl X x) (mx : X.mg x = some (.ref f)) (kp : PySem.W.keepIn X.K (.ref f) = true) (bd : KBn X.K fd ps 0 ks g gV) (out : ∀ σ, PassesAt CX X σ (E σ)) (args : PK X kws tk)
    (h1 : (backToKw pos (keywordEach kws X.env)).all (·.1.isSome) = true := by rfl) (h2 : (backToKw pos (keywordEach kws X.env)).filterMap (·.1) = ks := by rfl) (h3 : (x == ("__debug__" : Str)) = false := by decide)
    (h4 : ((backTo pos (starEach [] X.env)).any (·.1) || (backToKw pos (keywordEach kws X.env)).any (·.1.isNone)) = false := by rfl) : PE X (.Call (.Name x p) [] kws pos) (tKw sp gV ks.length E tk) := by
  refine ⟨fun pins s σ H Q I h => wpAny_Call_Name_kw (ld_glob I gx mx (PySem.W.callWith_KW0 (h₀ := X.base) I.ok.mod.kin kp h1 ?_ h4) h3)⟩
  refine thn (args.run pos pins s σ H _ I h) fun ws s2 ⟨zs, H2, I2, rz, hl, q2⟩ => ⟨I2.kIn, ?_⟩
  rw [h2]
  refine wpAny_call (codeAny_mono (G.run X.A X.stack s2 H2 ⟨[], ks.zip ws⟩ (g [] ws) (gV [] zs) Q (E σ) room I2.env0 (bd.to _ [] ws I2.kIn rfl (rz.length.symm.trans hl)) (bd.rel .nil rz) q2) fun r s3 q3 => ?_)
  match r, q3 with
  | .error e, q3 => exact out σ pins H2 s2 e s3 I2 q3
  | .ok (.ret u), q3 => exact I2.after q3
  | .ok .next, q3 => exact q3.elim
  | .ok .brk, q3 => exact q3.elim
  | .ok .cont, q3 => exact q3.elim
theorem pe_mkKw (M : Mk X.K C f) (G : FnOk X.prog X.w X.K X.mg X.base CX k f fd ps sp) (room : Room (k + 1) X.A) (gx : Gl X x) (mx : X.mg x = some (.ref C)) (bd : KBn X.K fd ps 1 ks g gV) (out : ∀ σ, PassesAt CX X σ (E σ)) (args : PK X kws tk)
    (h1 : (backToKw pos (keywordEach kws X.env)).all (·.1.isSome) = true := by rfl) (h2 : (backToKw pos (keywordEach kws X.env)).filterMap (·.1) = ks := by rfl) (h3 : (x == ("__debug__" : Str)) = false := by decide)
    (h4 : ((backTo pos (starEach [] X.env)).any (·.1) || (backToKw pos (keywordEach kws X.env)).any (·.1.isNone)) = false := by rfl) : PE X (.Call (.Name x p) [] kws pos) (tMkKw C sp gV ks.length E tk) := by
  refine ⟨fun pins s σ H Q I h => wpAny_Call_Name_kw (ld_glob I gx mx (PySem.W.callWith_KW0 (h₀ := X.base) I.ok.mod.kin M.kp h1 ?_ h4) h3)⟩
  refine thn (args.run pos pins s σ H _ I h) fun ws s2 ⟨zs, H2, I2, rz, hl, q2⟩ => ⟨I2.kIn, ?_⟩
  rw [h2]
  have q := q2 (s2.heap.objs.size + 1) s2.heap.objs.size (I2.hok.fresh (Nat.le_succ _)) (I2.hok.fresh (Nat.le_refl _)) (Nat.ne_of_lt (Nat.lt_succ_self _))
  have I3 := I2.made (C := C)
  have r3 := bd.rel (Paired.cons (show RelV (V.ref (s2.heap.objs.size + 1)) (Value.ref (s2.heap.objs.size + 1)) from rfl) .nil) rz
  refine wpAny_call (make_map (f := f) I2.kIn M.makes M.init (beq_iff_eq.mp M.fn) (codeAny_mono (G.run _ X.stack _ _ ⟨[.ref (s2.heap.objs.size + 1)], ks.zip ws⟩ _ _ _ (E σ) (room.make C [] (ks.zip ws)) (I3.env0.make C [] (ks.zip ws)) (bd.to _ [.ref (s2.heap.objs.size + 1)] ws I3.kIn rfl (rz.length.symm.trans hl)) r3 q) fun r s3 q3 => ?_))
  match r, q3 with
  | .error e, q3 => exact out σ pins _ _ e s3 I3 q3
  | .ok (.ret u), q3 =>
    obtain ⟨v, H4, I4, rv, ⟨rfl, k4⟩⟩ := I3.after q3
    exact ⟨rv, V.ref (s2.heap.objs.size + 1), H4, I4, rfl, k4⟩
  | .ok .next, q3 => exact q3.elim
  | .ok .brk, q3 => exact q3.elim
  | .ok .cont, q3 => exact q3.elim
end
def resV : Option Int → V
  | some k => .int k
  | none => .non
def spRefused : Sp := fun vs H Q _ => ∃ (x y : V) (dc ds : PyData), vs = [x, y] ∧ Dv H x dc ∧ Dv H y ds ∧ (itemsD ds).length ≤ 1000 ∧ (∀ e ∈ itemsD ds, (itemsD e).length ≤ 1000) ∧ ∀ H', Same H H' → Q (resV (makeRes dc ds)) H'
/-- what the top says of the class Machine's making -/
structure McT (K : PySem.W.Frag) (mg : Str → Option Value) (CM fI : Addr) (fdI : FuncData) : Prop where
  mM : Mk K CM fI
  g : mg "Machine" = some (.ref CM)
  b : Binds K fdI P_Machine___init []
  k : KBn K fdI P_Machine___init 1 ["steps", "commands"] (fun us ws => us ++ ws.reverse) (fun vs zs => vs ++ zs.reverse)
section
variable {P : Program} {w : World} {K : PySem.W.Frag} {mg : Str → Option Value} {base : Heap} {CM CR CE CW : Addr}
end
end Lk

set_option Elab.async false
set_option linter.all false
set_option maxRecDepth 100000
set_option maxHeartbeats 4000000
namespace Lk
open PySem L2
theorem op_mul_str {X : Cx} : OpR X (binaryOp .Mult) (fun x y H Q => ∃ (z : Str) (n : Int), x = .str z ∧ y = .int n ∧ MulOk z n ∧ Q (.str (Txt.mul z n)) H) := by
  intro pins s σ H x y v u Q I rx ry h
  obtain ⟨z, n, rfl, rfl, ok, q⟩ := h
  obtain ⟨t, rfl⟩ := rx
  obtain ⟨t', rfl⟩ := ry
  exact SB.mul ok fun t2 k => ⟨.str _, H, I.tok _, ⟨_, rfl⟩, q⟩
theorem cut_to {xs : List V} {n : Nat} (h : n ≤ xs.length) : cutV xs none (some (n : Int)) = xs.take n := by
  have e1 : HT.sIx xs.length 0 none = 0 := rfl
  have e2 : HT.sIx xs.length xs.length (some (n : Int)) = n := by
    show (if (n : Int) < 0 then ((n : Int) + ((xs.length : Nat) : Int)).toNat else min (n : Int).toNat xs.length) = n
    rw [if_neg (by omega), Int.toNat_natCast, Nat.min_eq_left h]
  unfold cutV
  rw [e1, e2, List.drop_zero, Nat.sub_zero]
theorem cut_from {xs : List V} {n : Nat} (h : n ≤ xs.length) : cutV xs (some (n : Int)) none = xs.drop n := by
  have e1 : HT.sIx xs.length xs.length none = xs.length := rfl
  have e2 : HT.sIx xs.length 0 (some (n : Int)) = n := by
    show (if (n : Int) < 0 then ((n : Int) + ((xs.length : Nat) : Int)).toNat else min (n : Int).toNat xs.length) = n
    rw [if_neg (by omega), Int.toNat_natCast, Nat.min_eq_left h]
  unfold cutV
  rw [e1, e2, List.take_of_length_le (by rw [List.length_drop]; exact Nat.le_refl _)]
/-- one of six, of five, of three -/
theorem pick6 {a b c d e f v : V} {i : Nat} {P : V → Prop} (h : [a, b, c, d, e, f][i]? = some v) (ha : P a) (hb : P b) (hc : P c) (hd : P d) (he : P e) (hf : P f) : P v := by
  match i, h with
  | 0, h => exact (Option.some.inj h) ▸ ha
  | 1, h => exact (Option.some.inj h) ▸ hb
  | 2, h => exact (Option.some.inj h) ▸ hc
  | 3, h => exact (Option.some.inj h) ▸ hd
  | 4, h => exact (Option.some.inj h) ▸ he
  | 5, h => exact (Option.some.inj h) ▸ hf
  | n + 6, h => simp at h
theorem pick5 {a b c d e v : V} {i : Nat} {P : V → Prop} (h : [a, b, c, d, e][i]? = some v) (ha : P a) (hb : P b) (hc : P c) (hd : P d) (he : P e) : P v := by
  match i, h with
  | 0, h => exact (Option.some.inj h) ▸ ha
  | 1, h => exact (Option.some.inj h) ▸ hb
  | 2, h => exact (Option.some.inj h) ▸ hc
  | 3, h => exact (Option.some.inj h) ▸ hd
  | 4, h => exact (Option.some.inj h) ▸ he
  | n + 5, h => simp at h
theorem pick3 {a b c v : V} {i : Nat} {P : V → Prop} (h : [a, b, c][i]? = some v) (ha : P a) (hb : P b) (hc : P c) : P v := by
  match i, h with
  | 0, h => exact (Option.some.inj h) ▸ ha
  | 1, h => exact (Option.some.inj h) ▸ hb
  | 2, h => exact (Option.some.inj h) ▸ hc
  | n + 3, h => simp at h
theorem badAt_at {A n : Int} {e : PyData} (he : isE A n e = false) : ∀ {pre post : List PyData} {i : Nat}, (∀ d ∈ pre, isE A n d = true) → badAt A n (pre ++ e :: post) i = some (i + pre.length)
  | [], _, _, _ => by
    show badAt A n (e :: _) _ = _
    rw [badAt_cons, if_neg (by rw [he]; decide)]
    rfl
  | d :: pre, post, i, h => by
    show badAt A n (d :: (pre ++ e :: post)) i = _
    rw [badAt_cons, if_pos (h d List.mem_cons_self), badAt_at he fun x hx => h x (List.mem_cons_of_mem _ hx), List.length_cons]
    congr 1
    omega
/-- an entry in the middle is wrong -/
theorem stepsRes_at {A : Nat} {rs : List (List Int)} {i : Nat} {e : PyData} (x : Rs A rs) (hi : i < rs.length) (he : isE A (rs.length : Int) e = false) : stepsRes A (.list ((rs.take i).map lstP ++ e :: (rs.drop (i + 1)).map lstP)) = some (2 + (i : Int)) := by
  have hl : ((rs.take i).map lstP ++ e :: (rs.drop (i + 1)).map lstP).length = rs.length := by
    rw [List.length_append, List.length_cons, List.length_map, List.length_map, List.length_take, List.length_drop]
    omega
  unfold stepsRes
  rw [if_neg (fun q => q.elim (fun e => by cases e) fun e => by
    have e' : ((rs.take i).map lstP ++ _ :: (rs.drop (i + 1)).map lstP) = [] := e
    simp at e')]
  have e0 : itemsD (.list ((rs.take i).map lstP ++ e :: (rs.drop (i + 1)).map lstP)) = (rs.take i).map lstP ++ e :: (rs.drop (i + 1)).map lstP := rfl
  rw [e0, hl, badAt_at he (fun d hd => by
    obtain ⟨r, hr, rfl⟩ := List.mem_map.mp hd
    exact isE_lst (x.row r (List.mem_of_mem_take hr))), List.length_map, List.length_take, Nat.min_eq_left (by omega)]
  show some (2 + ((0 + i : Nat) : Int)) = _
  rw [Nat.zero_add]
theorem makeRes_row {A : Nat} {rs : List (List Int)} {i : Nat} {e : PyData} (hA : 0 < A) (x : Rs A rs) (hi : i < rs.length) (he : isE A (rs.length : Int) e = false) : makeRes (.int A) (.list ((rs.take i).map lstP ++ e :: (rs.drop (i + 1)).map lstP)) = some (2 + (i : Int)) := by
  unfold makeRes
  rw [if_neg (by
    show ¬ decide ((A : Int) ≤ 0) = true
    rw [decide_eq_false (by omega)]
    decide)]
  exact stepsRes_at x hi he
def spWrong : Sp := fun vs H Q _ => ∃ (d l a : Addr) (A : Nat) (ts : List (Addr × List Int)), vs = [.ref d, .int (A : Int), .ref a] ∧ DealAt H d l ∧ GridAt H a ts ∧ ¬ dl d l a ∧ (∀ t ∈ ts, ¬ dl d l t.1) ∧ RowsOk A ts ∧ 0 < A ∧ A ≤ 5 ∧ ts.length ≤ 100 ∧
  ∀ (H' : Hp) (t : Addr) (x y : V) (dc ds : PyData) (n : Int), DealAt H' d l → SB d l H H' → H' t = some (.tup [x, y, .int n]) → Dv H' x dc → Dv H' y ds → (itemsD ds).length ≤ 1000 → (∀ e ∈ itemsD ds, (itemsD e).length ≤ 1000) → makeRes dc ds = some n → Q (.ref t) H'
theorem DvAll.set {H : Hp} {v : V} {e : PyData} (De : Dv H v e) : ∀ {xs : List V} {ds : List PyData} {i : Nat}, DvAll H xs ds → DvAll H (xs.set i v) (ds.set i e)
  | _, _, _, .nil => .nil
  | _, _, 0, .cons _ t => .cons De t
  | _, _, _ + 1, .cons h t => .cons h (DvAll.set De t)
theorem all_set_false {p : PyData → Bool} {e : PyData} : ∀ {ds : List PyData} {i : Nat}, i < ds.length → p e = false → (ds.set i e).all p = false
  | [], _, h, _ => by simp at h
  | d :: ds, 0, _, he => by
    show (p e && ds.all p) = false
    rw [he, Bool.false_and]
  | d :: ds, i + 1, h, he => by
    show (p d && (ds.set i e).all p) = false
    rw [all_set_false (Nat.lt_of_succ_lt_succ h) he, Bool.and_false]
theorem dvAll_append {H : Hp} : ∀ {xs ys : List V} {ds es : List PyData}, DvAll H xs ds → DvAll H ys es → DvAll H (xs ++ ys) (ds ++ es)
  | _, _, _, _, .nil, k => k
  | _, _, _, _, .cons h t, k => .cons h (dvAll_append t k)
theorem dv_mid {H : Hp} {ts : List (Addr × List Int)} {i : Nat} {v : V} {e : PyData} {p : Addr} (rows : ∀ t ∈ ts, H t.1 = some (.lst (t.2.map V.int))) (De : Dv H v e) (hp : H p = some (.lst ((ts.map fun t => V.ref t.1).take i ++ [v] ++ (ts.map fun t => V.ref t.1).drop (i + 1)))) :
    Dv H (.ref p) (.list (((rsOf ts).take i).map lstP ++ e :: ((rsOf ts).drop (i + 1)).map lstP)) := by
  refine .lst hp ?_
  have e1 : (rsOf ts).take i = rsOf (ts.take i) := by
    unfold rsOf
    rw [List.map_take]
  have e2 : (rsOf ts).drop (i + 1) = rsOf (ts.drop (i + 1)) := by
    unfold rsOf
    rw [List.map_drop]
  rw [e1, e2, ← List.map_take, ← List.map_drop, List.append_assoc]
  exact dvAll_append (dv_rowsL fun t ht => rows t (List.mem_of_mem_take ht)) (.cons De (dv_rowsL fun t ht => rows t (List.mem_of_mem_drop ht)))
theorem size_mid {rs : List (List Int)} {i : Nat} {e : PyData} (hi : i < rs.length) (hz : rs.length ≤ 1000) (he : (itemsD e).length ≤ 1000) (hr : ∀ r ∈ rs, r.length ≤ 1000) :
    (itemsD (.list ((rs.take i).map lstP ++ e :: (rs.drop (i + 1)).map lstP))).length ≤ 1000 ∧ ∀ q ∈ itemsD (.list ((rs.take i).map lstP ++ e :: (rs.drop (i + 1)).map lstP)), (itemsD q).length ≤ 1000 := by
  have e0 : itemsD (.list ((rs.take i).map lstP ++ e :: (rs.drop (i + 1)).map lstP)) = (rs.take i).map lstP ++ e :: (rs.drop (i + 1)).map lstP := rfl
  rw [e0]
  have hrow : ∀ r ∈ rs, (itemsD (lstP r)).length ≤ 1000 := fun r hr' => by
    show (r.map PyData.int).length ≤ 1000
    rw [List.length_map]
    exact hr r hr'
  refine ⟨?_, fun q hq => ?_⟩
  · rw [List.length_append, List.length_cons, List.length_map, List.length_map, List.length_take, List.length_drop]
    omega
  · rcases List.mem_append.mp hq with h | h
    · obtain ⟨r, hr', rfl⟩ := List.mem_map.mp h
      exact hrow r (List.mem_of_mem_take hr')
    · rcases List.mem_cons.mp h with h | h
      · rw [h]
        exact he
      · obtain ⟨r, hr', rfl⟩ := List.mem_map.mp h
        exact hrow r (List.mem_of_mem_drop hr')
section
variable {P : Program} {w : World} {K : PySem.W.Frag} {mg : Str → Option Value} {base : Heap}
end
end Lk

set_option Elab.async false
set_option linter.all false
set_option maxRecDepth 100000
set_option maxHeartbeats 4000000
namespace Lk
open PySem L2
theorem rows_of {F : List Int → List Int} {ts us : List (Addr × List Int)} (hl : us.length = ts.length) (h : ∀ (i : Nat) t, us[i]? = some t → ∃ u, ts[i]? = some u ∧ t.2 = F u.2) : rsOf us = (rsOf ts).map F := by
  refine List.ext_getElem? fun k => ?_
  rw [List.getElem?_map]
  cases hk : us[k]? with
  | none =>
    have q1 : us.length ≤ k := List.getElem?_eq_none_iff.mp hk
    have q2 : (rsOf ts)[k]? = none := List.getElem?_eq_none_iff.mpr (by rw [rsOf_len]; omega)
    have q3 : (rsOf us)[k]? = none := List.getElem?_eq_none_iff.mpr (by rw [rsOf_len]; exact q1)
    rw [q2, q3] <;> rfl
  | some t =>
    obtain ⟨u, hu, e⟩ := h k t hk
    rw [rsOf_get hk, rsOf_get hu, e] <;> rfl
section
variable {K : PySem.W.Frag} {j : Nat} {te : TE} {σ : St} {H1 : Hp} {D : Addr} {Qd : Hp → Prop} {d l : Addr}
/-- rows made of a list's rows, in new lists -/
theorem lcF {a : Addr} {ts : List (Addr × List Int)} (F : List Int → List Int) (hD : H1 D = none) (hI : DealAt H1 d l) (G : GridAt H1 a ts) (na : ¬ dl d l a) (nt : ∀ t ∈ ts, ¬ dl d l t.1) (hn : ts.length ≤ 1000)
    (hs : ∀ u ∈ ts, ∀ H, DealAt H d l → SB d l H1 H → H u.1 = some (.lst (u.2.map V.int)) → ∀ Q : VK, (∀ b, H b = none → Q (.ref b) (upd H b (.lst ((F u.2).map V.int)))) → te ((wipe σ [j]).set j (some (.ref u.1))) H Q)
    (hd : ∀ us H', rsOf us = (rsOf ts).map F → NewG H1 D us → GridAt H' D us → DealAt H' d l → SB d l H1 H' → Qd H') :
    ∃ W : Nat → Nat → Hp → Prop, (∃ m, W 0 m (upd H1 D (.lst []))) ∧ ∀ i m H, W i m H →
      ((Itl K a).stop i H ∧ Qd H) ∨ ((Itl K a).go i H ∧ ∃ Nx : Hp → Prop, (∀ H', Nx H' → ∃ m', m' < m ∧ W (i + 1) m' H') ∧ ∀ x H', (Itl K a).yld i H x H' → gName j x (wipe σ [j]) H' fun σ2 H2 => wipe σ2 [j] = wipe σ [j] ∧ tYes σ2 H2 fun b H3 =>
        if b = true then te σ2 H3 fun y H4 => ∃ acc, H4 D = some (.lst acc) ∧ acc.length < sizeLine ∧ Nx (upd H4 D (.lst (acc ++ [y]))) else Nx H3) := by
  refine lcGL (K := K) (a := a) (xs := ts.map fun t => V.ref t.1) (fun i r => ∃ u, ts[i]? = some u ∧ r = F u.2) hD hI (by rw [List.length_map]; omega) (fun H3 k3 => SqL.of (k3.kp.get na G.top)) (fun i x H3 hi x3 k3 Q3 kQ => ?_) (fun us H3 hl hz hN hG x3 k3 => ?_)
  · rw [List.getElem?_map] at hi
    obtain ⟨u, hu, rfl⟩ : ∃ u, ts[i]? = some u ∧ V.ref u.1 = x := by
      cases e : ts[i]? with
      | none => rw [e] at hi; cases hi
      | some u => rw [e] at hi; exact ⟨u, rfl, Option.some.inj hi⟩
    have hm := mem_of_get hu
    exact hs u hm H3 x3 k3 (k3.kp.get (nt u hm) (G.row u hm)) Q3 fun b hb => kQ b (F u.2) _ (x3.new hb) (SB.new hb) hb upd_same ⟨u, hu, rfl⟩
  · rw [List.length_map] at hl
    exact hd us H3 (rows_of hl hz) hN hG x3 k3
/-- what is made in new tuples -/
theorem lcFT {a : Addr} {ts : List (Addr × List Int)} (hD : H1 D = none) (hI : DealAt H1 d l) (G : GridAt H1 a ts) (na : ¬ dl d l a) (nt : ∀ t ∈ ts, ¬ dl d l t.1) (hn : ts.length ≤ 1000)
    (hs : ∀ u ∈ ts, ∀ H, DealAt H d l → SB d l H1 H → H u.1 = some (.lst (u.2.map V.int)) → ∀ Q : VK, (∀ b, H b = none → Q (.ref b) (upd H b (.tup (u.2.map V.int)))) → te ((wipe σ [j]).set j (some (.ref u.1))) H Q)
    (hd : ∀ (us : List (Addr × List Int)) H', rsOf us = rsOf ts → H' D = some (.lst (us.map fun u => V.ref u.1)) → (∀ u ∈ us, H' u.1 = some (.tup (u.2.map V.int))) → (∀ u ∈ us, u.1 ≠ D) → DealAt H' d l → SB d l H1 H' → Qd H') :
    ∃ W : Nat → Nat → Hp → Prop, (∃ m, W 0 m (upd H1 D (.lst []))) ∧ ∀ i m H, W i m H →
      ((Itl K a).stop i H ∧ Qd H) ∨ ((Itl K a).go i H ∧ ∃ Nx : Hp → Prop, (∀ H', Nx H' → ∃ m', m' < m ∧ W (i + 1) m' H') ∧ ∀ x H', (Itl K a).yld i H x H' → gName j x (wipe σ [j]) H' fun σ2 H2 => wipe σ2 [j] = wipe σ [j] ∧ tYes σ2 H2 fun b H3 =>
        if b = true then te σ2 H3 fun y H4 => ∃ acc, H4 D = some (.lst acc) ∧ acc.length < sizeLine ∧ Nx (upd H4 D (.lst (acc ++ [y]))) else Nx H3) := by
  have nD : ¬ dl d l D := hI.free hD
  refine lcL (K := K) (a := a) (xs := ts.map fun t => V.ref t.1) (dl d l) (fun H => DealAt H d l) (fun i y H' => ∃ t : Addr × List Int, y = V.ref t.1 ∧ H1 t.1 = none ∧ t.1 ≠ D ∧ H' t.1 = some (.tup (t.2.map V.int)) ∧ ∃ u, ts[i]? = some u ∧ t.2 = u.2) hD nD (by rw [List.length_map]; omega) hI (fun H o x => x.upd nD)
    (fun i y H H' k ⟨t, e, h1, h2, h3, h4⟩ => ⟨t, e, h1, h2, k.get (fun q => q.elim (hI.free h1) h2) h3, h4⟩) (fun H k => SqL.of (k.get na G.top)) (fun i x H acc hi x3 k3 hDa Q kQ => ?_) (fun ys H' hl hf hD' x3 k3 => ?_)
  · rw [List.getElem?_map] at hi
    obtain ⟨u, hu, rfl⟩ : ∃ u, ts[i]? = some u ∧ V.ref u.1 = x := by
      cases e : ts[i]? with
      | none => rw [e] at hi; cases hi
      | some u => rw [e] at hi; exact ⟨u, rfl, Option.some.inj hi⟩
    have hm := mem_of_get hu
    refine hs u hm H x3 k3.sb (k3.get (nt u hm) (G.row u hm)) Q fun b hb => kQ _ _ (x3.new hb) (KP.new hb) ⟨(b, u.2), rfl, k3.free (x3.free hb) hb, fun e => ?_, upd_same, u, hu, rfl⟩
    have e' : b = D := e
    rw [e', hDa] at hb
    cases hb
  · obtain ⟨us, rfl, ht⟩ := collect (g := fun u : Addr × List Int => V.ref u.1) hf
    rw [List.length_map, List.length_map] at hl
    have hm : ∀ t ∈ us, t.1 ≠ D ∧ H' t.1 = some (.tup (t.2.map V.int)) := fun t h => by
      obtain ⟨i, hi⟩ := List.getElem?_of_mem h
      exact ⟨(ht i t hi).2.1, (ht i t hi).2.2.1⟩
    refine hd us H' ?_ hD' (fun u hu => (hm u hu).2) (fun u hu => (hm u hu).1) x3 k3.sb
    have e := rows_of (F := id) hl fun i t hi => (ht i t hi).2.2.2
    rw [e, List.map_id]
/-- over enumerate of a list, into the slots i and j -/
theorem lcE {i j : Nat} {a : Addr} {xs : List V} (S : Addr → Prop) (I : Hp → Prop) (f : Nat → V → Hp → Prop) (hD : H1 D = none) (hS : ¬ S D) (hn : xs.length ≤ 1000000) (hI : I H1) (mI : ∀ H p o, ¬ S p → I H → I (upd H p o)) (fr : ∀ H p, I H → H p = none → ¬ S p)
    (mf : ∀ i y H H', KP (fun a => S a ∨ a = D) H H' → f i y H → f i y H') (ha : ∀ H, KP S H1 H → SqL K H a xs) (hw : ∀ x y : V, wipe (((wipe σ [i, j]).set i (some x)).set j (some y)) [i, j] = wipe σ [i, j])
    (hs : ∀ k x H acc, xs[k]? = some x → I H → KP S H1 H → H D = some (.lst acc) → ∀ Q : VK, (∀ y H4, I H4 → KP S H H4 → f k y H4 → Q y H4) → te (((wipe σ [i, j]).set i (some (.int (k : Int)))).set j (some x)) H Q)
    (hd : ∀ ys H', ys.length = xs.length → (∀ i y, ys[i]? = some y → f i y H') → H' D = some (.lst ys) → I H' → KP S H1 H' → Qd H') :
    ∃ W : Nat → Nat → Hp → Prop, (∃ m, W 0 m (upd H1 D (.lst []))) ∧ ∀ k m H, W k m H →
      ((Ite K a).stop k H ∧ Qd H) ∨ ((Ite K a).go k H ∧ ∃ Nx : Hp → Prop, (∀ H', Nx H' → ∃ m', m' < m ∧ W (k + 1) m' H') ∧ ∀ x H', (Ite K a).yld k H x H' → gTup K 2 (gCons (gName i) (gCons (gName j) gNil)) x (wipe σ [i, j]) H' fun σ2 H2 => wipe σ2 [i, j] = wipe σ [i, j] ∧ tYes σ2 H2 fun b H3 =>
        if b = true then te σ2 H3 fun y H4 => ∃ acc, H4 D = some (.lst acc) ∧ acc.length < sizeLine ∧ Nx (upd H4 D (.lst (acc ++ [y]))) else Nx H3) := by
  refine ⟨fun k m H => m = xs.length - k ∧ k ≤ xs.length ∧ Lcp S I f H1 D k H, ⟨xs.length, rfl, Nat.zero_le _, Lcp.zero hD (fun H o x => mI H D o hS x) hI⟩, ?_⟩
  rintro k m H ⟨rfl, hk, p⟩
  have qa := ha H p.2.1
  by_cases hlt : k < xs.length
  · have ga : xs[k]? = some xs[k] := List.getElem?_eq_getElem hlt
    refine .inr ⟨⟨xs, _, qa, ga⟩, fun H => Lcp S I f H1 D (k + 1) H, fun H' q => ⟨xs.length - (k + 1), by omega, rfl, hlt, q⟩, ?_⟩
    rintro v H' ⟨T, x, rfl, hT, rfl, f1⟩
    have ex := f1 _ qa
    rw [ga] at ex
    obtain rfl := Option.some.inj ex
    have nT := fr _ _ p.1 hT
    have hTD : T ≠ D := fun e => by
      obtain ⟨_, _, ys, e2, _⟩ := p
      rw [e, e2] at hT
      cases hT
    obtain ⟨p1, p2, ys, e, hl, hf⟩ := p
    have pT : Lcp S I f H1 D k (upd H T (.tup [V.int (k : Int), xs[k]])) := ⟨mI _ _ _ nT p1, p2.trans (KP.new hT), ys, (upd_ne (Ne.symm hTD)).trans e, hl, fun i y hy => mf _ _ _ _ (KP.new hT) (hf i y hy)⟩
    refine ⟨T, _, rfl, SqT.of upd_same, rfl, _, _, rfl, _, _, rfl, rfl, hw _ _, iteT (B := Lcp S I f H1 D (k + 1) (upd H T (.tup [V.int (k : Int), xs[k]]))) ?_⟩
    exact hs k _ _ ys ga pT.1 pT.2.1 ((upd_ne (Ne.symm hTD)).trans e) _ fun y H4 h1 h2 h3 => pT.step hD hS (fun H o x => mI H D o hS x) mf (by omega) h1 h2 h3
  · have e : k = xs.length := by omega
    subst e
    obtain ⟨p1, p2, ys, e, hl, hf⟩ := p
    exact .inl ⟨⟨_, qa, Nat.le_refl _⟩, hd ys H hl hf e p1 p2⟩
end
end Lk

set_option Elab.async false
set_option linter.all false
set_option maxRecDepth 100000
set_option maxHeartbeats 4000000
namespace Lk
open PySem L2
/-- a deal, a drawn machine's data in lists, and a machine made of it -/
structure Game (CM : Addr) (H : Hp) (d l a m : Addr) (A : Nat) (ts us : List (Addr × List Int)) : Prop where
  D : DealAt H d l
  G : GridAt H a ts
  na : ¬ dl d l a
  nt : ∀ t ∈ ts, ¬ dl d l t.1
  R : RowsOk A ts
  A0 : 0 < A
  A5 : A ≤ 5
  hz : ts.length ≤ 100
  M : MachAt CM H m A us
  e : rsOf us = rsOf ts
theorem Game.go {CM : Addr} {H H' : Hp} {d l a m : Addr} {A : Nat} {ts us : List (Addr × List Int)} (g : Game CM H d l a m A ts us) (D' : DealAt H' d l) (S : SB d l H H') : Game CM H' d l a m A ts us :=
  ⟨D', g.G.kp S.kp g.na g.nt, g.na, g.nt, g.R, g.A0, g.A5, g.hz, g.M.nl (NL.of_sb S g.D), g.e⟩
theorem Game.new {CM : Addr} {H : Hp} {d l a m p : Addr} {o : HO} {A : Nat} {ts us : List (Addr × List Int)} (g : Game CM H d l a m A ts us) (h : H p = none) : Game CM (upd H p o) d l a m A ts us :=
  g.go (g.D.new h) (SB.new h)
theorem Game.same {CM : Addr} {H H' : Hp} {d l a m : Addr} {A : Nat} {ts us : List (Addr × List Int)} (g : Game CM H d l a m A ts us) (S : Same H H') : Game CM H' d l a m A ts us := by
  obtain ⟨bs, b, x⟩ := g.D
  exact g.go ⟨bs, b, S _ _ x.hd, S _ _ x.hl, x.pos, x.len, x.b0, x.b1⟩ (KP.same S).sb
theorem Game.rows {CM : Addr} {H : Hp} {d l a m : Addr} {A : Nat} {ts us : List (Addr × List Int)} (g : Game CM H d l a m A ts us) : Rs A (rsOf ts) := g.R.rs
theorem DealAt.same {H H' : Hp} {d l : Addr} (x : DealAt H d l) (S : Same H H') : DealAt H' d l := by
  obtain ⟨bs, b, x⟩ := x
  exact ⟨bs, b, S _ _ x.hd, S _ _ x.hl, x.pos, x.len, x.b0, x.b1⟩
/-- what the top says of == of the class -/
structure EqT (P : Program) (w : World) (K : PySem.W.Frag) (mg : Str → Option Value) (base : Heap) (CM fE : Addr) (fdE : FuncData) : Prop where
  G : FnOk P w K mg base CX0 1 fE fdE P_Machine___eq (spEqM CM)
  b : Binds K fdE P_Machine___eq []
  T : TxE K mg CM fE
theorem stepsRes_first {A : Int} {ds : List PyData} {i : Nat} {e : PyData} (hi : ds[i]? = some e) (he : isE A (ds.length : Int) e = false) (h : ∀ d ∈ ds.take i, isE A (ds.length : Int) d = true) : stepsRes A (.list ds) = some (2 + (i : Int)) := by
  have hlt := cases_list hi
  have e1 : ds = ds.take i ++ e :: ds.drop (i + 1) := by
    rw [← drop_get hi, List.take_append_drop]
  have e0 : itemsD (.list ds) = ds := rfl
  unfold stepsRes
  rw [if_neg (fun q => q.elim (fun e => by cases e) fun e => by
    have e' : ds = [] := e
    rw [e'] at hlt
    simp at hlt), e0]
  have e2 : badAt A (ds.length : Int) ds 0 = some i := by
    have q : badAt A (ds.length : Int) (ds.take i ++ e :: ds.drop (i + 1)) 0 = some (0 + (ds.take i).length) := badAt_at he h
    rw [← e1, List.length_take, Nat.min_eq_left (by omega), Nat.zero_add] at q
    exact q
  rw [e2] <;> rfl
theorem dvAll_of {H : Hp} : ∀ {xs : List V} {ds : List PyData}, xs.length = ds.length → (∀ (k : Nat) y, xs[k]? = some y → ∃ d, ds[k]? = some d ∧ Dv H y d) → DvAll H xs ds
  | [], [], _, _ => .nil
  | [], _ :: _, h, _ => by simp at h
  | _ :: _, [], h, _ => by simp at h
  | x :: xs, d :: ds, h, f => by
    obtain ⟨d', e, Dx⟩ := f 0 x rfl
    have e' : d = d' := Option.some.inj e
    rw [← e'] at Dx
    exact .cons Dx (dvAll_of (Nat.succ.inj h) fun k y hk => f (k + 1) y hk)
theorem zero_rows {A : Nat} {rs : List (List Int)} (x : Rs A rs) (h : rs.length = 1) : rs = [List.replicate A 0] := by
  match rs, h with
  | [r], _ =>
    obtain ⟨h1, h2⟩ := x.row r List.mem_cons_self
    have e : r = List.replicate A 0 := List.eq_replicate_iff.mpr ⟨h1, fun z hz => by
      have := h2 z hz
      simp at this
      omega⟩
    rw [e]
theorem makeRes_int {A : Nat} {ds : PyData} (h : 0 < A) : makeRes (.int (A : Int)) ds = stepsRes (A : Int) ds := by
  unfold makeRes
  rw [if_neg (by
    show ¬ decide ((A : Int) ≤ 0) = true
    rw [decide_eq_false (by omega)]
    decide)]
  rfl
def spUnlike (CM : Addr) : Sp := fun vs H Q _ => ∃ (d l a m : Addr) (A : Nat) (ts us : List (Addr × List Int)), vs = [.ref d, .int (A : Int), .ref a, .ref m] ∧ Game CM H d l a m A ts us ∧ ∀ H', DealAt H' d l → SB d l H H' → Q (.bl true) H'
/-- a machine of rows in lists is made -/
theorem make_rows {CM CE : Addr} {H1 : Hp} {a : Addr} {A : Nat} {ts : List (Addr × List Int)} {Q : Addr → Hp → Prop} {E : XK} (hA : 0 < A) (h5 : A ≤ 1000) (G : GridAt H1 a ts) (R : Rs A (rsOf ts)) (hz : ts.length ≤ 1000)
    (h : ∀ H' m us, Same H1 H' → H1 m = none → MachAt CM H' m (A : Int) us → rsOf us = rsOf ts → Q m H') :
    ∀ x0 dx, H1 x0 = none → H1 dx = none → dx ≠ x0 → spInit CM CE (.ref x0 :: ([.int (A : Int), .ref a] ++ [])) (upd (upd H1 dx (.own x0)) x0 (.ins CM dx [])) (fun v H2 => v = .non ∧ Q x0 H2) E := by
  refine make_any (dc := .int (A : Int)) (ds := .list ((rsOf ts).map lstP)) (.int _) (.lst G.top (dv_rowsL G.row)) ?_ (fun e he => ?_) ?_
  · show ((rsOf ts).map lstP).length ≤ 1000
    rw [List.length_map, rsOf_len]
    exact hz
  · obtain ⟨r, hr, rfl⟩ := List.mem_map.mp he
    show (r.map PyData.int).length ≤ 1000
    rw [List.length_map, (R.row r hr).1]
    exact h5
  · have e : makeRes (.int (A : Int)) (.list ((rsOf ts).map lstP)) = none := by
      unfold makeRes
      rw [if_neg (by
        show ¬ decide ((A : Int) ≤ 0) = true
        rw [decide_eq_false (by omega)]
        decide)]
      exact stepsRes_rows (A := A) (g := lstP) rfl rfl (fun n r h => isE_lst h) R
    rw [e]
    refine fun H' m us S hm M eR => h H' m us S hm M ?_
    rw [eR]
    exact map_rowD rowD_lst _
section
variable {P : Program} {w : World} {K : PySem.W.Frag} {mg : Str → Option Value} {base : Heap} {CM CE fI fE : Addr} {fdI fdE : FuncData}
end
end Lk

set_option Elab.async false
set_option linter.all false
set_option maxRecDepth 100000
set_option maxHeartbeats 4000000
namespace Lk
open PySem L2
/-! ### what is shown by repr -/
structure Sh (d : PyData) : Prop where
  s : d.showable = true
  n : d.hasDict = false
  l : d.leavesShort 13 = true
  w : d.weight ≤ 1000000
  dp : d.depth ≤ 8
theorem Sh.size {d : PyData} (x : Sh d) : d.shown.length ≤ sizeLine := PyData.shown_fits (B := 13) (by decide) (by decide) x.l (Nat.le_trans x.w (by decide))
theorem weight_int {z : Int} (h : z.natAbs < 2 ^ 30) : (PyData.int z).weight ≤ 31 := by
  show (if z == 0 then 0 else z.natAbs.log2 + 1) ≤ 31
  by_cases h0 : (z == 0) = true
  · rw [if_pos h0]
    decide
  · rw [if_neg h0]
    have hz : z.natAbs ≠ 0 := by
      have : ¬ z = 0 := by simpa using h0
      omega
    have := (Nat.log2_lt hz).mpr h
    omega
theorem show_int {z : Int} (h : z.natAbs < 2 ^ 30) : (PyData.int z).showable = true ∧ (PyData.int z).leavesShort 13 = true := by
  refine ⟨decide_eq_true ?_, ?_⟩
  · by_cases hz : z.natAbs = 0
    · rw [hz]
      decide
    · exact Nat.lt_trans ((Nat.log2_lt hz).mpr h) (by decide)
  · exact decide_eq_true (PyData.shown_int_le (Nat.lt_trans h (by decide)))
theorem sh_int {z : Int} (h : z.natAbs < 2 ^ 30) : Sh (.int z) := ⟨(show_int h).1, rfl, (show_int h).2, Nat.le_trans (weight_int h) (by decide), by show 0 ≤ 8; decide⟩
theorem show_ints : ∀ {r : List Int}, (∀ z ∈ r, z.natAbs < 2 ^ 30) → PyData.showableAll (r.map PyData.int) = true ∧ PyData.hasDictAll (r.map PyData.int) = false ∧ PyData.leavesShortAll 13 (r.map PyData.int) = true ∧ PyData.weightAll (r.map PyData.int) ≤ 32 * r.length
  | [], _ => ⟨rfl, rfl, rfl, Nat.le_refl _⟩
  | z :: r, h => by
    obtain ⟨h1, h2, h3, h4⟩ := show_ints fun y hy => h y (List.mem_cons_of_mem _ hy)
    obtain ⟨i1, i2⟩ := show_int (h z List.mem_cons_self)
    have i3 := weight_int (h z List.mem_cons_self)
    refine ⟨?_, ?_, ?_, ?_⟩
    · show ((PyData.int z).showable && PyData.showableAll (r.map PyData.int)) = true
      rw [i1, h1] <;> rfl
    · show (false || PyData.hasDictAll (r.map PyData.int)) = false
      rw [h2] <;> rfl
    · show ((PyData.int z).leavesShort 13 && PyData.leavesShortAll 13 (r.map PyData.int)) = true
      rw [i2, h3] <;> rfl
    · show (PyData.int z).weight + 1 + PyData.weightAll (r.map PyData.int) ≤ 32 * (r.length + 1)
      omega
theorem sh_row {r : List Int} (h : ∀ z ∈ r, z.natAbs < 2 ^ 30) (hl : r.length ≤ 10000) : Sh (rowP r) := by
  obtain ⟨h1, h2, h3, h4⟩ := show_ints h
  refine ⟨h1, h2, h3, Nat.le_trans h4 (by omega), ?_⟩
  have e : (rowP r).depth = PyData.depthAll (r.map PyData.int) + 1 := rfl
  have := depth_ints r
  omega
theorem show_rows {m : Nat} : ∀ {rs : List (List Int)}, (∀ r ∈ rs, r.length ≤ m ∧ ∀ z ∈ r, z.natAbs < 2 ^ 30) → PyData.showableAll (rs.map rowP) = true ∧ PyData.hasDictAll (rs.map rowP) = false ∧ PyData.leavesShortAll 13 (rs.map rowP) = true ∧ PyData.weightAll (rs.map rowP) ≤ (32 * m + 1) * rs.length
  | [], _ => ⟨rfl, rfl, rfl, Nat.zero_le _⟩
  | r :: rs, h => by
    obtain ⟨h1, h2, h3, h4⟩ := show_rows fun y hy => h y (List.mem_cons_of_mem _ hy)
    obtain ⟨hl, hz⟩ := h r List.mem_cons_self
    obtain ⟨i1, i2, i3, i4⟩ := show_ints hz
    refine ⟨?_, ?_, ?_, ?_⟩
    · show (PyData.showableAll (r.map PyData.int) && PyData.showableAll (rs.map rowP)) = true
      rw [i1, h1] <;> rfl
    · show (PyData.hasDictAll (r.map PyData.int) || PyData.hasDictAll (rs.map rowP)) = false
      rw [i2, h2] <;> rfl
    · show (PyData.leavesShortAll 13 (r.map PyData.int) && PyData.leavesShortAll 13 (rs.map rowP)) = true
      rw [i3, h3] <;> rfl
    · show PyData.weightAll (r.map PyData.int) + 1 + PyData.weightAll (rs.map rowP) ≤ (32 * m + 1) * (rs.length + 1)
      have : 32 * r.length ≤ 32 * m := Nat.mul_le_mul_left _ hl
      rw [Nat.mul_add]
      omega
/-- a machine's fields, as they are told -/
def machP (A n : Int) (rs : List (List Int)) : PyData := .tuple [.int A, .int n, .tuple (rs.map rowP)]
theorem sh_mach {A n : Int} {rs : List (List Int)} (hA : A.natAbs < 2 ^ 30) (hn : n.natAbs < 2 ^ 30) (h : ∀ r ∈ rs, r.length ≤ 5 ∧ ∀ z ∈ r, z.natAbs < 2 ^ 30) (hl : rs.length ≤ 1000) : Sh (machP A n rs) := by
  obtain ⟨h1, h2, h3, h4⟩ := show_rows h
  obtain ⟨a1, a2⟩ := show_int hA
  obtain ⟨b1, b2⟩ := show_int hn
  have a3 := weight_int hA
  have b3 := weight_int hn
  refine ⟨?_, ?_, ?_, ?_, ?_⟩
  · show ((PyData.int A).showable && ((PyData.int n).showable && (PyData.showableAll (rs.map rowP) && true))) = true
    rw [a1, b1, h1] <;> rfl
  · show (false || (false || (PyData.hasDictAll (rs.map rowP) || false))) = false
    rw [h2] <;> rfl
  · show ((PyData.int A).leavesShort 13 && ((PyData.int n).leavesShort 13 && (PyData.leavesShortAll 13 (rs.map rowP) && true))) = true
    rw [a2, b2, h3] <;> rfl
  · show (PyData.int A).weight + 1 + ((PyData.int n).weight + 1 + (PyData.weightAll (rs.map rowP) + 1 + 0)) ≤ 1000000
    omega
  · have e : (machP A n rs).depth = max 0 (max 0 (max (PyData.depthAll (rs.map rowP) + 1) 0)) + 1 := rfl
    have := depth_rows rs
    omega
/-- repr of an int, or of lists and tuples -/
def rRepr (K : PySem.W.Frag) : List V → Hp → VK → Prop := fun xs H Q => ∃ (x : V) (d : PyData), xs = [x] ∧ Dp K H x d ∧ ((∃ i, x = .int i) ∨ ∃ a, x = .ref a) ∧ Sh d ∧ Q (.str d.shown) H
theorem call_repr {X : Cx} (hg : X.A.guards = some []) (hu : X.A.units + 16 < cLine) : CallR X (.builtin "repr") (rRepr X.K) := by
  intro pins s σ H xs us Q I r h
  obtain ⟨x, d, rfl, D, hk, sh, q⟩ := h
  obtain ⟨u, rfl, ru⟩ := Vals.one r
  rcases hk with ⟨i, rfl⟩ | ⟨a, rfl⟩
  · cases D
    obtain ⟨t, rfl⟩ := ru
    exact PySem.P.repr_of_int (of_decide_eq_true sh.s) ⟨.str _, H, I.tok _, ⟨_, rfl⟩, q⟩
  · obtain rfl : u = Value.ref a := ru
    obtain ⟨as, rd⟩ := Dp.reads I d _ _ D rfl
    refine PySem.repr_of_reads' rd sh.s (fun h' => by rw [sh.n] at h'; cases h') hg (by have := sh.dp; omega) (fun b o e => e) (fun h' w tk hk => ⟨.str d.shown, H, ?_, ⟨_, rfl⟩, q⟩) sh.size
    exact I.kept (t' := tk) hk
end Lk

set_option Elab.async false
set_option linter.all false
set_option maxRecDepth 100000
set_option maxHeartbeats 4000000
namespace Lk
open PySem PySem.Spec PyProof.Rows L2
/-! ### defs that run where no repr is under way -/
structure FnG (P : Program) (w : World) (K : PySem.W.Frag) (mg : Str → Option Value) (base : Heap) (k : Nat) (f : Addr) (fd : FuncData) (ps : List Str) (sp : Sp) : Prop where
  len : ∀ vs H Q E, sp vs H Q E → vs.length = ps.length
  run : ∀ (A : Around) (outer : List Env) (s : Shared) (H : Hp) (args : Args) (us : List Value) (vs : List V) (Q : VK) (E : XK), A.guards = some [] → Room k A → Env0 P w K mg base A outer s H → BindsTo s fd args (ps.zip us) → Vals vs us → sp vs H Q E →
    codeAny (model P w) A (.call (.ref f) args) (CR CX0 outer P w H s Q E) s
section
variable {P : Program} {w : World} {K : PySem.W.Frag} {mg : Str → Option Value} {base : Heap}
theorem Fun.okG {x qual : Str} {st : Stmt} {f : Addr} {fd : FuncData} {N ps : List Str} {k : Nat} {sp : Sp} (F : Fun K x qual st f fd) (S : FnScope N ps (defScope st)) (len : ∀ vs H Q E, sp vs H Q E → vs.length = ps.length)
    (body : ∀ (cdv : Value) (A : Around) (outer : List Env) (s : Shared) (H : Hp) (vs : List V) (Q : VK) (E : XK), A.guards = some [] → Room k (A.deeper (envOfC qual (defScope st) s.heap.objs.size f cdv)) → sp vs H Q E →
      ∃ t, PSs (cxOf CX0 P w K mg base N qual (defScope st) f cdv A outer s H E).nox (defBody st) t ∧ t { nx := fun _ H' => Q .non H', rt := Q } (start N vs) H) : FnG P w K mg base (k + 1) f fd ps sp := by
  obtain ⟨oc, od, kV, doc, pm, an, cdv, ct, osl, rfl, lk, hcd⟩ := F.ex
  refine ⟨len, fun A outer s H args us vs Q E hg hr e0 hb r h => ?_⟩
  have keep : ∀ b o, base.get? b = some o → s.heap.get? b = some o := fun b o e => (e0.bs b o e).1
  have kx := e0.mod.kin.keeps keep
  have kinds : ∀ q ∈ ps.zip us, (defScope st).names.lookup q.1 = some .local ∨ ((defScope st).names.lookup q.1 = some .cell ∧ ((cellsFrom (s.heap.objs.size + 1) (defScope st).names []).lookup q.1).isSome = true) := fun q hq => by
    rcases S.par q.1 (List.of_mem_zip hq).1 with z | z
    · exact .inl z
    · exact .inr ⟨z, PySem.W.cellsFrom_some _ _ _ (.inl z)⟩
  refine codeAny_call_function hr.depth (kx _ _ lk) rfl S.co S.gen rfl (PySem.W.codeRec_of kx hcd) (hb _ _ _ _ (wpAny_newFunctionEnv_cells S.kind kinds fun env he s1 z => ?_))
  subst he
  refine ⟨(e0.mod.nolimit.keeps keep).keeps z.toInCall.keep, codeAny_func ?_⟩
  obtain ⟨t, ht, q⟩ := body cdv A outer s H vs Q E hg (hr.deeper _) h
  have I := inv_start (CX := CX0) (E := E) (mg := mg) (f := f) (cd := cdv) (qual := qual) S hr.hd e0 (len _ _ _ _ h) r z
  refine wpAny_mono (ht.nox.run [] s1 (start N vs) H _ I q) (fun fl s2 hs => ?_) fun e s2 hs => hs
  match fl, hs with
  | .ret u, ⟨v, σ2, H2, J, rv, k⟩ => exact ⟨v, H2, J.os, J.bare, J.base, J.hok, rv, k⟩
  | .next, ⟨σ2, H2, J, k⟩ => exact ⟨.non, H2, J.os, J.bare, J.base, J.hok, rfl, k⟩
  | .brk, ⟨_, _, _, k⟩ => exact k.elim
  | .cont, ⟨_, _, _, k⟩ => exact k.elim
end
section
variable {X : Cx} {k : Nat} {f : Addr} {fd : FuncData} {ps : List Str} {sp : Sp} {x : Str} {p pos : Pos} {e : Expr} {es : List Expr} {t : TA}
theorem pe_callG (G : FnG X.prog X.w X.K X.mg X.base k f fd ps sp) (quiet : X.A.guards = some []) (room : Room k X.A) (gx : Gl X x) (mx : X.mg x = some (.ref f)) (kp : PySem.W.keepIn X.K (.ref f) = true) (bd : Binds X.K fd ps []) (args : PA X (e :: es) t)
    (h1 : (x == ("__debug__" : Str)) = false := by decide) (h2 : starEach (e :: es) X.env = (false, eval e X.env) :: starEach es X.env := by rfl) (h3 : (backTo pos (starEach es X.env)).any (·.1) = false := by rfl) :
    PE X (.Call (.Name x p) (e :: es) [] pos) (tCall sp [] E0 t) := by
  refine ⟨fun pins s σ H Q I h => wpAny_Call_Name_kw (ld_glob I gx mx (PySem.W.callWith_K (h₀ := X.base) I.ok.mod.kin kp (thn (args.run pos pins s σ H _ I h) fun us s1 ⟨vs, H1, I1, r, q⟩ => ⟨I1.kIn, ?_⟩) h2 h3) h1)⟩
  have q : sp (vs ++ []) H1 Q E0 := q
  rw [List.append_nil] at q
  have hl : us.length = ps.length := by rw [← r.length]; exact G.len _ _ _ _ q
  have b := bd s1 us I1.kIn (by rw [List.append_nil]; exact hl)
  rw [List.append_nil] at b
  refine wpAny_call (codeAny_mono (G.run X.A X.stack s1 H1 ⟨us, []⟩ us vs Q E0 quiet room I1.env0 b r q) fun z s2 q2 => ?_)
  match z, q2 with
  | .error e, q2 => exact q2.elim
  | .ok (.ret u), q2 => exact I1.after q2
  | .ok .next, q2 => exact q2.elim
  | .ok .brk, q2 => exact q2.elim
  | .ok .cont, q2 => exact q2.elim
end
end Lk

set_option Elab.async false
set_option linter.all false
set_option maxRecDepth 100000
set_option maxHeartbeats 4000000
/-! the law's end, for a law that runs where no repr is under way -/
namespace Lk
open PySem PySem.Spec PyProof.Rows L2
section
variable {P : Program} {w : World} {K : PySem.W.Frag} {mg mb : Str → Option Value} {k : Nat} {fa a : Addr} {fd : FuncData} {x : Str} {sp : Sp} {s : Shared} {vs : List Value} {ns : List Int}
/-- what the law's call leaves -/
abbrev Fine (s : Shared) (r : Result) (s' : Shared) : Prop := r = .ok (.ret (.bool true)) ∧ OldK s.heap s'.heap ∧ s'.os = s.os ∧ AllBare s'.gens
/-- H: what is told of the heap, the script alone or nothing -/
theorem core_G {H : Hp} (kx : K.In s.heap) (gl : s.heap.Ns mainGlobals mg) (bl : s.heap.Ns builtinsNs mb) (bb : ∀ y : Str, y ≠ "__name__" → mb y = bootBuiltins y) (lim : s.heap.NoLimit) (gens : s.gens = #[]) (obj : s.heap.get? a = some { cls := .type "list", data := .seq vs.toArray }) (room : Room k callerA)
    (F : ∀ base : Heap, K.In base → base.Ns mainGlobals mg → FnG P w K mg base k fa fd [x] sp) (bind : ∀ (s : Shared) (u : Value), BindsTo s fd ⟨[u], []⟩ [(x, u)]) (at_a : ∀ b u, H b = some u → b = a ∧ ∃ o ys, u = .frz o (.lst ys)) (ok : HOk P w H s.heap) (un : H a ≠ none → K.lookup a = none)
    (h : sp [.ref a] H (fun v _ => v = .bl true) fun _ _ _ => False) : codeAny (model P w) callerA (.call (.ref fa) ⟨[.ref a], []⟩) (Fine s) s := by
  have other : ∀ b, b ≠ a → H b = none := fun b n => by
    cases q : H b with
    | none => rfl
    | some u => exact absurd (at_a b u q).1 n
  have stays : ∀ {b : Addr} {m : Str → Option Value}, s.heap.Ns b m → (hidT s.heap H).Ns b m := fun {b m} ⟨o, es, ep, e, d, r⟩ => by
    refine ⟨o, es, ep, hidT_get e (other b fun z => ?_), d, r⟩
    subst z
    rw [obj] at e
    cases e
    cases (show Data.seq vs.toArray _ = Data.dict es ep from d)
  have kin : K.In (hidT s.heap H) := fun b o e => hidT_get (kx b o e) (by
    cases q : H b with
    | none => rfl
    | some u =>
      have z := (at_a b u q).1
      subst z
      rw [un (by rw [q]; simp)] at e
      cases e)
  obtain ⟨mc, l1, l2⟩ := lim
  have e0 : Env0 P w K mg (hidT s.heap H) callerA [] s H := ⟨rfl, ⟨kin, stays gl, ⟨mb, stays bl, bb⟩, ⟨mc, stays l1, l2⟩⟩, fun b o e => of_hidT e, Nat.le_of_eq (hidT_size _ _), trivial, (fun b hb => by cases (show b ∈ ([] : List Addr) from hb)), ok, .of_eq gens⟩
  refine codeAny_mono ((F _ kin (stays gl)).run callerA [] s H ⟨[.ref a], []⟩ [.ref a] [.ref a] _ _ rfl room e0 (bind s (.ref a)) (.cons rfl .nil) h) fun r s2 q => ?_
  match r, q with
  | .error e, q => exact q.elim
  | .ok .next, q => exact q.elim
  | .ok .brk, q => exact q.elim
  | .ok .cont, q => exact q.elim
  | .ok (.ret u), ⟨v, H2, os, bare, ub, ok2, rv, ev⟩ =>
    have ev' : v = .bl true := ev
    subst ev'
    obtain rfl : u = Value.bool true := rv
    refine ⟨rfl, OldK.of_keep fun b o e => ?_, os, bare⟩
    cases q : H b with
    | none => exact ub.keep b o e q (by simp [frs]) (by simp)
    | some t =>
      obtain ⟨_, ob, ys, rfl⟩ := at_a b t q
      have f1 := ok b _ q
      have f2 := ok2 b _ (ub.frzs b ob _ q)
      obtain ⟨g1, _⟩ := f1
      obtain ⟨g2, _⟩ := f2
      rw [e] at g1
      cases g1
      exact g2
theorem law_callG (kx : K.In s.heap) (gl : s.heap.Ns mainGlobals mg) (bl : s.heap.Ns builtinsNs mb) (bb : ∀ y : Str, y ≠ "__name__" → mb y = bootBuiltins y) (lim : s.heap.NoLimit) (gens : s.gens = #[]) (obj : s.heap.get? a = some { cls := .type "list", data := .seq vs.toArray }) (its : IntsAre vs ns) (len : ns.length ≤ sizeLine) (room : Room k callerA)
    (F : ∀ base : Heap, K.In base → base.Ns mainGlobals mg → FnG P w K mg base k fa fd [x] sp) (bind : ∀ (s : Shared) (u : Value), BindsTo s fd ⟨[u], []⟩ [(x, u)])
    (h : ∀ H : Hp, SqL K H a (ns.map V.int) → sp [.ref a] H (fun v _ => v = .bl true) fun _ _ _ => False) : codeAny (model P w) callerA (.call (.ref fa) ⟨[.ref a], []⟩) (Fine s) s := by
  cases q : K.lookup a with
  | some o =>
    have e := kx a o q
    rw [obj] at e
    cases e
    exact core_G (H := fun _ => none) kx gl bl bb lim gens obj room F bind (fun _ _ z => by cases z) (fun _ _ z => by cases (show (none : Option HO) = some _ from z)) (fun z => absurd rfl z) (h _ (.inr ⟨_, vs.toArray, _, q, rfl, rfl, rfl, by rw [List.size_toArray, its.length]; exact len, by simpa using vals_ints its⟩))
  | none =>
    refine core_G (H := fun b => if b = a then some (.frz { cls := .type "list", data := .seq vs.toArray } (.lst (ns.map V.int))) else none) kx gl bl bb lim gens obj room F bind (fun b u z => ?_) (fun b u z => ?_) (fun _ => q) (h _ (.inl (.inr ⟨_, if_pos rfl⟩)))
    · by_cases hb : b = a
      · exact ⟨hb, _, _, (Option.some.inj ((if_pos hb).symm.trans z)).symm⟩
      · cases (if_neg hb).symm.trans z
    · by_cases hb : b = a
      · cases (if_pos hb).symm.trans z
        subst hb
        exact ⟨obj, by rw [List.length_map]; exact len, vs, _, vals_ints its, obj⟩
      · cases (if_neg hb).symm.trans z
end
theorem walk_G {l : PySem.W.OpenLaw} {n k : Nat} {q : Program} {loose : List Str} {XP : (Str → Option Value) → Heap → Prop} {YP : World → Heap → Prop} {d : DefRec} {K : Params → PySem.W.Frag} {sp : World → Sp} {x : Str} (hn : l.most = some n) (hn2 : n ≤ sizeLine) (hdf : d.params.defaults = []) (room : Room k callerA)
    (inn : ∀ (w : World) (h : Heap), YP w h → (K w.params).In h)
    (F : ∀ (w : World) (mg : Str → Option Value) (fa : Addr) (h : Heap), (K w.params).In h → h.Ns mainGlobals mg → mg d.name = some (.ref fa) → ∃ fd : FuncData, (∀ (s : Shared) (u : Value), BindsTo s fd ⟨[u], []⟩ [(x, u)]) ∧ ∀ base : Heap, (K w.params).In base → base.Ns mainGlobals mg → FnG l.prog w (K w.params) mg base k fa fd [x] (sp w))
    (h : ∀ (w : World) (H : Hp) (a : Addr) (ns : List Int), ns.length ≤ n → SqL (K w.params) H a (ns.map V.int) → sp w [.ref a] H (fun v _ => v = .bl true) fun _ _ _ => False) : PySem.W.WalkO q loose XP YP l.row.toRowW d [] (fun f vs => PySem.call f vs) := by
  refine Att.attach_call hn hdf fun w s0 s1 mg mb fa o pm cd doc a vs ns G Y ho hd hcd hmg obj its len gens => ?_
  obtain ⟨fd, b, f⟩ := F w mg fa _ (inn w _ Y) G.T.g hmg
  exact law_callG (inn w _ Y) G.T.g G.T.b G.T.builtins G.T.nolimit gens obj its (Nat.le_trans len hn2) room f b fun H hS => h w H a ns len hS
end Lk

set_option Elab.async false
set_option linter.all false
set_option maxRecDepth 100000
set_option maxHeartbeats 4000000
namespace Lk
open PySem L2
theorem joinName {te : TE} {g : TG} {rest : TS} {D : Ends} {i : Nat} {v : V} {σ : St} {H : Hp} {f : St → Hp → Prop} (e : f = tSeq (tAsg te g) rest D) (R : V → Hp → Prop) (h : ∀ Q' : VK, (∀ v H', R v H' → Q' v H') → te (σ.set i (some v)) H Q') (k : ∀ u H', R u H' → g u (σ.set i (some v)) H' (rest D)) : gName i v σ H f := by
  subst e
  exact h _ k
theorem joinNx {te : TE} {g : TG} {rest : TS} {D : Ends} {σ : St} {H : Hp} {f : St → Hp → Prop} (e : f = tSeq (tAsg te g) rest D) (R : V → Hp → Prop) (h : ∀ Q' : VK, (∀ v H', R v H' → Q' v H') → te σ H Q') (k : ∀ u H', R u H' → g u σ H' (rest D)) : f σ H := by
  subst e
  exact h _ k
theorem joinIf {c : TT} {t rest : TS} {D : Ends} {σ : St} {H : Hp} {f : St → Hp → Prop} (e : f = tSeq (tIfS c t tNext) rest D) (R : Hp → Prop) (h : ∀ Q' : Bool → Hp → Prop, (∀ H', R H' → Q' false H') → c σ H Q') (k : ∀ H', R H' → rest D σ H') : f σ H := by
  subst e
  exact h _ fun H' r => iteF (k H' r)
theorem joinNameIf {c : TT} {t rest : TS} {D : Ends} {i : Nat} {v : V} {σ : St} {H : Hp} {f : St → Hp → Prop} (e : f = tSeq (tIfS c t tNext) rest D) (R : Hp → Prop) (h : ∀ Q' : Bool → Hp → Prop, (∀ H', R H' → Q' false H') → c (σ.set i (some v)) H Q') (k : ∀ H', R H' → rest D (σ.set i (some v)) H') : gName i v σ H f := by
  subst e
  exact h _ fun H' r => iteF (k H' r)
/-- a machine of rows in tuples is made -/
theorem make_rowsT {CM CE : Addr} {H1 : Hp} {q : Addr} {A : Nat} {vs : List (Addr × List Int)} {Q : Addr → Hp → Prop} {E : XK} (hA : 0 < A) (h5 : A ≤ 1000) (hq : H1 q = some (.tup (vs.map fun u => V.ref u.1))) (rows : ∀ u ∈ vs, H1 u.1 = some (.tup (u.2.map V.int))) (R : Rs A (rsOf vs)) (hz : vs.length ≤ 1000)
    (h : ∀ H' m us, Same H1 H' → H1 m = none → MachAt CM H' m (A : Int) us → rsOf us = rsOf vs → Q m H') :
    ∀ x0 dx, H1 x0 = none → H1 dx = none → dx ≠ x0 → spInit CM CE (.ref x0 :: ([.int (A : Int), .ref q] ++ [])) (upd (upd H1 dx (.own x0)) x0 (.ins CM dx [])) (fun v H2 => v = .non ∧ Q x0 H2) E := by
  refine make_any (dc := .int (A : Int)) (ds := .tuple ((rsOf vs).map rowP)) (.int _) (.tup hq (dv_rowsT rows)) ?_ (fun e he => ?_) ?_
  · show ((rsOf vs).map rowP).length ≤ 1000
    rw [List.length_map, rsOf_len]
    exact hz
  · obtain ⟨r, hr, rfl⟩ := List.mem_map.mp he
    show (r.map PyData.int).length ≤ 1000
    rw [List.length_map, (R.row r hr).1]
    exact h5
  · have e : makeRes (.int (A : Int)) (.tuple ((rsOf vs).map rowP)) = none := by
      rw [makeRes_int hA]
      exact stepsRes_rows (A := A) (g := rowP) rfl rfl (fun n r h => isE_tup h) R
    rw [e]
    refine fun H' m us S hm M eR => h H' m us S hm M ?_
    rw [eR]
    exact map_rowD rowD_tup _
theorem Game.upd {CM : Addr} {H : Hp} {d l a m b : Addr} {A : Nat} {ts us : List (Addr × List Int)} {xs : List V} {o : HO} (g : Game CM H d l a m A ts us) (hb : H b = some (.lst xs)) (nb : ¬ dl d l b) (na : a ≠ b) (nt : ∀ t ∈ ts, t.1 ≠ b) : Game CM (L2.upd H b o) d l a m A ts us :=
  ⟨g.D.upd nb, ⟨(upd_ne na).trans g.G.top, fun t ht => (upd_ne (nt t ht)).trans (g.G.row t ht)⟩, g.na, g.nt, g.R, g.A0, g.A5, g.hz, g.M.nl (NL.upd hb), g.e⟩
theorem sb_upd {d l b : Addr} {H H' : Hp} {o : HO} (x : SB d l H H') (h : H b = none) : SB d l H (upd H' b o) := (x.kp.mut h).sb
/-- rows in tuples, in a tuple -/
structure Wh (H : Hp) (q : Addr) (vs : List (Addr × List Int)) : Prop where
  top : H q = some (.tup (vs.map fun u => V.ref u.1))
  row : ∀ u ∈ vs, H u.1 = some (.tup (u.2.map V.int))
theorem Wh.same {H H' : Hp} {q : Addr} {vs : List (Addr × List Int)} (x : Wh H q vs) (S : Same H H') : Wh H' q vs := ⟨S _ _ x.top, fun u hu => S _ _ (x.row u hu)⟩
/-- the game, with a row, and the row as it is told -/
structure Play (CM : Addr) (H : Hp) (d l a m : Addr) (A : Nat) (ts us : List (Addr × List Int)) (rq b : Addr) (ns : List Int) (dy : PyData) : Prop where
  g : Game CM H d l a m A ts us
  r : H rq = some (.tup (ns.map V.int))
  nr : ¬ dl d l rq
  nb : ¬ dl d l b
  t : (H b = some (.lst (ns.map V.int)) ∧ dy = .list (ns.map PyData.int)) ∨ (H b = some (.tup (ns.map V.int)) ∧ dy = .tuple (ns.map PyData.int))
section
variable {CM : Addr} {H H' : Hp} {d l a m rq b : Addr} {A : Nat} {ts us : List (Addr × List Int)} {ns : List Int} {dy : PyData}
theorem Play.go (x : Play CM H d l a m A ts us rq b ns dy) (D' : DealAt H' d l) (S : SB d l H H') : Play CM H' d l a m A ts us rq b ns dy :=
  ⟨x.g.go D' S, S.kp.get x.nr x.r, x.nr, x.nb, x.t.elim (fun z => .inl ⟨S.kp.get x.nb z.1, z.2⟩) fun z => .inr ⟨S.kp.get x.nb z.1, z.2⟩⟩
theorem Play.same (x : Play CM H d l a m A ts us rq b ns dy) (S : Same H H') : Play CM H' d l a m A ts us rq b ns dy := x.go (x.g.same S).D (KP.same S).sb
theorem Play.new {p : Addr} {o : HO} (x : Play CM H d l a m A ts us rq b ns dy) (h : H p = none) : Play CM (upd H p o) d l a m A ts us rq b ns dy := x.same (Same.new h)
theorem Play.dv (x : Play CM H d l a m A ts us rq b ns dy) : Dv H (.ref b) dy := by
  rcases x.t with ⟨h, rfl⟩ | ⟨h, rfl⟩
  · exact .lst h (dvAll_ints _)
  · exact .tup h (dvAll_ints _)
theorem Play.items (x : Play CM H d l a m A ts us rq b ns dy) : isS dy = true ∧ itemsD dy = ns.map PyData.int := by
  rcases x.t with ⟨h, rfl⟩ | ⟨h, rfl⟩
  · exact ⟨rfl, rfl⟩
  · exact ⟨rfl, rfl⟩
end
theorem badV_ok {A : Int} : ∀ {ns : List Int} {i : Nat}, (∀ z ∈ ns, 0 ≤ z ∧ z < A) → badV A (ns.map PyData.int) i = none
  | [], _, _ => rfl
  | z :: ns, i, h => by
    have q := h z List.mem_cons_self
    have e : isB A (.int z) = true := by
      show (decide (0 ≤ z) && decide (z < A)) = true
      rw [decide_eq_true q.1, decide_eq_true q.2] <;> rfl
    rw [List.map_cons, badV_cons, if_pos e]
    exact badV_ok fun y hy => h y (List.mem_cons_of_mem _ hy)
theorem dp_ref {K : PySem.W.Frag} {H : Hp} {v : V} {ds : List PyData} (h : Dp K H v (.tuple ds)) : ∃ a, v = .ref a := by
  cases h with
  | tup _ _ => exact ⟨_, rfl⟩
theorem dp_int {K : PySem.W.Frag} {H : Hp} {v : V} {i : Int} (h : Dp K H v (.int i)) : v = .int i := by
  cases h
  rfl
theorem powG_in {n : Nat} : ∀ {k t : Nat} {a b : List Int}, InR n a → InR n b → InR n (powG k t a b)
  | 0, _, _, _, _, hb => hb
  | k + 1, t, a, b, ha, hb => by
    unfold powG
    by_cases h : t = 0
    · rw [if_pos h]
      exact hb
    · rw [if_neg h]
      refine powG_in (ha.comp ha) ?_
      by_cases h2 : t % 2 = 1
      · rw [if_pos h2]
        exact hb.comp ha
      · rw [if_neg h2]
        exact hb
mutual
theorem dp_same {K : PySem.W.Frag} {H H' : Hp} (S : Same H H') : ∀ {v : V} {d : PyData}, Dp K H v d → Dp K H' v d
  | _, _, .non => .non
  | _, _, .bl b => .bl b
  | _, _, .int i => .int i
  | _, _, .str x => .str x
  | _, _, .lst h t => .lst (Same.seq S h) (dpAll_same S t)
  | _, _, .tup h t => .tup (sameT S h) (dpAll_same S t)
theorem dpAll_same {K : PySem.W.Frag} {H H' : Hp} (S : Same H H') : ∀ {vs : List V} {ds : List PyData}, DpAll K H vs ds → DpAll K H' vs ds
  | _, _, .nil => .nil
  | _, _, .cons h t => .cons (dp_same S h) (dpAll_same S t)
end
/-- what v is, whatever is drawn -/
def KDv (d l : Addr) (H : Hp) (v : V) (e : PyData) : Prop := ∀ H', SB d l H H' → Dv H' v e
theorem KDv.dv {d l : Addr} {H : Hp} {v : V} {e : PyData} (x : KDv d l H v e) : Dv H v e := x H (SB.refl d l H)
theorem KDv.go {d l : Addr} {H H1 : Hp} {v : V} {e : PyData} (x : KDv d l H v e) (S : SB d l H H1) : KDv d l H1 v e := fun H' S' => x H' (S.trans S')
theorem rSlA_ok {K : PySem.W.Frag} {H : Hp} {rq : Addr} {xs : List V} {lo hi : Option Int} {Q : VK} (h : SqT K H rq xs) (k : ∀ H' p, Same H H' → SqT K H' p (cutV xs lo hi) → Q (.ref p) H') : rSlA K (.ref rq) lo hi H Q := by
  refine ⟨rq, xs, rfl, h, fun e => k H rq (Same.refl _) ?_, fun _ p hp => k _ p (Same.new hp) (SqT.of upd_same)⟩
  have e2 : cutV xs lo hi = xs := by
    unfold cutV
    rw [e.1, e.2, List.drop_zero, Nat.sub_zero, List.take_length]
  rw [e2]
  exact h
theorem badV_at {A : Int} {e : PyData} (he : isB A e = false) : ∀ {ns : List Int} {post : List PyData} {i : Nat}, (∀ z ∈ ns, 0 ≤ z ∧ z < A) → badV A (ns.map PyData.int ++ e :: post) i = some (i + ns.length)
  | [], _, _, _ => by
    show badV A (e :: _) _ = _
    rw [badV_cons, if_neg (by rw [he]; decide)]
    rfl
  | z :: ns, post, i, h => by
    have q := h z List.mem_cons_self
    have e1 : isB A (.int z) = true := by
      show (decide (0 ≤ z) && decide (z < A)) = true
      rw [decide_eq_true q.1, decide_eq_true q.2] <;> rfl
    show badV A (.int z :: (ns.map PyData.int ++ e :: post)) i = _
    rw [badV_cons, if_pos e1, badV_at he fun x hx => h x (List.mem_cons_of_mem _ hx), List.length_cons]
    congr 1
    omega
theorem isB_self {n : Int} : isB n (.int n) = false := by
  show (decide (0 ≤ n) && decide (n < n)) = false
  rw [decide_eq_false (show ¬ n < n by omega), Bool.and_false]
theorem noPart {σ : St} {H : Hp} {Q : Option Int → Hp → Prop} (h : Q none H) : tNoPart σ H Q := h
theorem eqv_pair (s : Str) (i : Int) : PyData.eqv (.tuple [.str s, .int i]) (.tuple [.str s, .int i]) = true := by
  show ((s == s) && ((i == i) && true)) = true
  simp
theorem shaped_row (i : Int) : SeqAt.shaped (.tuple [.str "row", .int i]) = true := by
  have h1 : PyData.canLay0 (.tuple [.str "row", .int i]) = true := by
    show (PyData.canLay0 (.str "row") && (true && true)) = true
    rw [show PyData.canLay0 (.str "row") = true by decide +kernel] <;> rfl
  have h2 : PyData.depth (.tuple [.str "row", .int i]) ≤ 64 := by
    show max 0 (max 0 0) + 1 ≤ 64
    decide
  unfold SeqAt.shaped
  rw [h1, Bool.true_and]
  exact decide_eq_true h2
theorem shaped_ref (i : Int) : SeqAt.shaped (.tuple [.str "refused", .int i]) = true := by
  have h1 : PyData.canLay0 (.tuple [.str "refused", .int i]) = true := by
    show (PyData.canLay0 (.str "refused") && (true && true)) = true
    rw [show PyData.canLay0 (.str "refused") = true by decide +kernel] <;> rfl
  have h2 : PyData.depth (.tuple [.str "refused", .int i]) ≤ 64 := by
    show max 0 (max 0 0) + 1 ≤ 64
    decide
  unfold SeqAt.shaped
  rw [h1, Bool.true_and]
  exact decide_eq_true h2
theorem rowRes_no {A : Int} {e : PyData} (h : isS e = false) : rowRes A e = some 0 := by
  unfold rowRes
  rw [if_pos h]
theorem rows_ok {A : Nat} {os : List (Addr × List Int)} (x : Rs A (rsOf os)) : RowsOk A os := by
  refine ⟨by have := x.pos; rw [rsOf_len] at this; exact this, fun t ht => ?_⟩
  have := x.row t.2 (List.mem_map.mpr ⟨t, ht, rfl⟩)
  rw [rsOf_len] at this
  exact this
end Lk

set_option Elab.async false
set_option linter.all false
set_option maxRecDepth 100000
set_option maxHeartbeats 4000000
/-! kernels -/
namespace Lk
open PySem L2
abbrev s_kernel_of : Stmt := top 23
abbrev N_kernel_of : List Str := ["labels", "first", "index", "label"]
abbrev P_kernel_of : List Str := ["labels"]
theorem sc_kernel_of : FnScope N_kernel_of P_kernel_of (defScope s_kernel_of) := ⟨rfl, rfl, rfl, by decide +kernel, rfl, by decide +kernel, by decide +kernel⟩
theorem walk_enumT {K : PySem.W.Frag} {a : Addr} {xs : List V} : Walk (ItE K a) xs.length (fun H => SqT K H a xs) (YPair (fun i => some (.int (i : Nat))) (fun i => xs[i]?)) := by
  refine ⟨fun i _ hi q => ⟨xs, xs[i], q, by simp [hi]⟩, fun _ q => ⟨xs, q, Nat.le_refl _⟩, fun i H v H' _ q y => ?_⟩
  obtain ⟨T, x, h1, h2, h3, h4⟩ := y
  exact ⟨T, .int (i : Nat), x, h1, h2, h3, rfl, h4 xs q⟩
/-- for each label the first place at which it stands -/
def kerL (xs : List Int) : List Int := xs.map fun x => ((xs.idxOf x : Nat) : Int)
theorem idx_at {x : Int} : ∀ {xs : List Int} {i : Nat}, xs[i]? = some x → x ∉ xs.take i → xs.idxOf x = i
  | [], _, h, _ => by cases h
  | y :: ys, 0, h, _ => by
    obtain rfl := Option.some.inj h
    exact List.idxOf_cons_self
  | y :: ys, i + 1, h, hn => by
    rw [List.take_succ_cons, List.mem_cons, not_or] at hn
    have e1 : (y == x) = false := by simpa using fun e : y = x => hn.1 e.symm
    have e2 := idx_at (xs := ys) (i := i) (x := x) (by simpa using h) hn.2
    rw [List.idxOf_cons, e1, e2]
    rfl
theorem kerL_at {xs : List Int} {i : Nat} {x : Int} (h : xs[i]? = some x) : (kerL xs)[i]? = some ((xs.idxOf x : Nat) : Int) := by
  unfold kerL
  rw [List.getElem?_map, h]
  rfl
theorem wipe2 {σ : St} {i j : Nat} (x y : V) : wipe (((wipe σ [i, j]).set i (some x)).set j (some y)) [i, j] = wipe σ [i, j] := by
  show ((((((σ.set j none).set i none).set i (some x)).set j (some y)).set j none).set i none) = (σ.set j none).set i none
  simp only [List.set_set]
  by_cases h : i = j
  · subst h
    simp only [List.set_set]
  · rw [List.set_comm (i := j) (j := i) _ _ (fun e => h e.symm)]
    simp only [List.set_set]
    rw [List.set_comm (i := i) (j := j) _ _ h]
    simp only [List.set_set]
/-- the second, or the first of each pair -/
theorem tv2 {σ : St} {i j : Nat} {x y : Int} {H : Hp} {Q : VK} (hj : j < σ.length) (k : Q (.int y) H) : tVar j (((wipe σ [i, j]).set i (some (.int x))).set j (some (.int y))) H Q := by
  refine ⟨.int y, ?_, k⟩
  rw [List.getElem?_set_self (by rw [List.length_set, wipe_length]; exact hj)]
theorem tv1 {σ : St} {i j : Nat} {x y : Int} {H : Hp} {Q : VK} (hij : j ≠ i) (hi : i < σ.length) (k : Q (.int x) H) : tVar i (((wipe σ [i, j]).set i (some (.int x))).set j (some (.int y))) H Q := by
  refine ⟨.int x, ?_, k⟩
  rw [List.getElem?_set_ne hij, List.getElem?_set_self (by rw [wipe_length]; exact hi)]
theorem putK_len {κ : Type} [DecidableEq κ] (kvs : List (κ × V)) (k : κ) (y : V) : (putK kvs k y).length ≤ kvs.length + 1 := by
  unfold putK
  by_cases h : (kvs.any fun kv => decide (kv.1 = k)) = true
  · rw [if_pos h, List.length_map]
    exact Nat.le_succ _
  · rw [if_neg h, List.length_append]
    exact Nat.le_refl _
theorem tYes_go {σ : St} {H : Hp} {F : Bool → Hp → Prop} (h : F true H) : tYes σ H F := h
def spKOf (Sq : Hp → Addr → List V → Prop) : Sp := fun vs H Q _ => ∃ (a : Addr) (xs : List Int), vs = [.ref a] ∧ Sq H a (xs.map V.int) ∧ xs.length ≤ 1000 ∧ ∀ H' q, Same H H' → H q = none → H' q = some (.tup ((kerL xs).map V.int)) → Q (.ref q) H'
section
variable {K : PySem.W.Frag} {J : It} {G : Hp → Prop} {σ : St} {H1 : Hp} {f D : Addr} {Qd : Hp → Prop}
theorem kof_lc {xs : List Int} (w : Walk J xs.length G (YPair (fun i => some (.int (i : Nat))) (fun i => (xs.map V.int)[i]?))) (hf : H1 f = none) (hD : upd H1 f (.dK []) D = none) (hz : xs.length ≤ 1000) (hG : ∀ H, Same H1 H → G H)
    (h1 : σ[1]? = some (some (.ref f))) (hl : 3 < σ.length) (hd : ∀ H', Same H1 H' → H' D = some (.lst ((kerL xs).map V.int)) → Qd H') :
    ∃ W : Nat → Nat → Hp → Prop, (∃ m, W 0 m (upd (upd H1 f (.dK [])) D (.lst []))) ∧ ∀ i m H, W i m H →
      (J.stop i H ∧ Qd H) ∨ (J.go i H ∧ ∃ Nx : Hp → Prop, (∀ H', Nx H' → ∃ m', m' < m ∧ W (i + 1) m' H') ∧ ∀ x H', J.yld i H x H' → gTup K 2 (gCons (gName 2) (gCons (gName 3) gNil)) x (wipe σ [2, 3]) H' fun σ2 H2 => wipe σ2 [2, 3] = wipe σ [2, 3] ∧ tYes σ2 H2 fun b H3 =>
        if b = true then tDSetd (tVar 1) (tVar 3) (tVar 2) σ2 H3 fun y H4 => ∃ acc, H4 D = some (.lst acc) ∧ acc.length < sizeLine ∧ Nx (upd H4 D (.lst (acc ++ [y]))) else Nx H3) := by
  have nDf : D ≠ f := fun e => by
    rw [e, upd_same] at hD
    cases hD
  have hD0 : H1 D = none := by
    rw [upd_ne nDf] at hD
    exact hD
  refine lc_it w (fun i H => Same H1 H ∧ (∃ kvs : List (Key × V), H f = some (.dK kvs) ∧ kvs.length ≤ i ∧ ∀ x : Int, valV kvs (.inl x) = if x ∈ xs.take i then some (.int ((xs.idxOf x : Nat) : Int)) else none) ∧ H D = some (.lst (((kerL xs).take i).map V.int)))
    ⟨(Same.new hf).trans (Same.new hD), ⟨[], by rw [upd_ne nDf.symm, upd_same], Nat.le_refl _, fun x => by simp [valV_nil]⟩, upd_same⟩ (fun i H _ p => hG H p.1) ?_ (fun H p => hd H p.1 (by
      have e := p.2.2
      rw [List.take_of_length_le (by unfold kerL; rw [List.length_map]; exact Nat.le_refl _)] at e
      exact e))
  rintro i v H H' hi ⟨p1, ⟨kvs, p2, p3, p4⟩, p5⟩ ⟨T, x, y, rfl, hT, rfl, ex, ey⟩
  obtain rfl := (Option.some.inj ex).symm
  obtain ⟨z, hz', rfl⟩ : ∃ z, xs[i]? = some z ∧ V.int z = y := by
    have ey : (xs.map V.int)[i]? = some y := ey
    rw [List.getElem?_map] at ey
    cases e : xs[i]? with
    | none => rw [e] at ey; cases ey
    | some z => rw [e] at ey; exact ⟨z, rfl, Option.some.inj ey⟩
  have nTf : f ≠ T := ne_of_none p2 hT
  have nTD : D ≠ T := ne_of_none p5 hT
  have q1 : Same H1 (upd H T (.tup [V.int (i : Nat), V.int z])) := p1.trans (Same.new hT)
  have q2 : upd H T (.tup [V.int (i : Nat), V.int z]) f = some (.dK kvs) := (upd_ne nTf).trans p2
  have q5 : upd H T (.tup [V.int (i : Nat), V.int z]) D = some (.lst (((kerL xs).take i).map V.int)) := (upd_ne nTD).trans p5
  have accl : (((kerL xs).take i).map V.int).length < sizeLine := by
    rw [List.length_map]
    exact Nat.lt_of_le_of_lt (Nat.le_trans (by rw [List.length_take]; exact Nat.min_le_left _ _) (Nat.le_trans (Nat.le_of_lt hi) hz)) (by decide)
  have kl : kvs.length < sizeLine := Nat.lt_of_le_of_lt (Nat.le_trans p3 (Nat.le_trans (Nat.le_of_lt hi) hz)) (by decide)
  have ek : ((kerL xs).take i).map V.int ++ [V.int ((xs.idxOf z : Nat) : Int)] = ((kerL xs).take (i + 1)).map V.int := by
    rw [take_next (kerL_at hz'), List.map_append]
    rfl
  refine ⟨T, _, rfl, SqT.of upd_same, rfl, _, _, rfl, _, _, rfl, rfl, wipe2 _ _, ?_⟩
  refine tYes_go ?_
  simp only [↓reduceIte]
  have g1 : (((wipe σ [2, 3]).set 2 (some (V.int (i : Nat)))).set 3 (some (V.int z)))[1]? = some (some (.ref f)) := by
    show (((((σ.set 3 none).set 2 none).set 2 _).set 3 _))[1]? = _
    rw [List.getElem?_set_ne (by decide), List.getElem?_set_ne (by decide), List.getElem?_set_ne (by decide), List.getElem?_set_ne (by decide)]
    exact h1
  have g2 : (((wipe σ [2, 3]).set 2 (some (V.int (i : Nat)))).set 3 (some (V.int z)))[2]? = some (some (.int (i : Nat))) := by
    rw [List.getElem?_set_ne (by decide), List.getElem?_set_self (by rw [wipe_length]; omega)]
  have g3 : (((wipe σ [2, 3]).set 2 (some (V.int (i : Nat)))).set 3 (some (V.int z)))[3]? = some (some (.int z)) := by
    rw [List.getElem?_set_self (by rw [List.length_set, wipe_length]; exact hl)]
  refine ⟨_, g1, f, rfl, .inl ⟨kvs, .inl q2⟩, _, g3, _, g2, kvs, .inl z, q2, rfl, kl, fun v hv => ?_, fun hv => ?_⟩
  · have e := p4 z
    rw [hv] at e
    by_cases hm : z ∈ xs.take i
    · rw [if_pos hm] at e
      obtain rfl := Option.some.inj e
      refine ⟨_, q5, accl, ((KP.same (S := fun _ => False) q1).mut hD0).toSame, ⟨kvs, (upd_ne nDf.symm).trans q2, Nat.le_succ_of_le p3, fun x => ?_⟩, by rw [upd_same, ek]⟩
      rw [p4 x, take_next hz']
      by_cases hx : x ∈ xs.take i
      · rw [if_pos hx, if_pos (List.mem_append_left _ hx)]
      · rw [if_neg hx, if_neg (fun q => (List.mem_append.mp q).elim hx fun q => hx (by rw [List.mem_singleton.mp q]; exact hm))]
    · rw [if_neg hm] at e
      cases e
  · have e := p4 z
    rw [hv] at e
    by_cases hm : z ∈ xs.take i
    · rw [if_pos hm] at e
      cases e
    · have ei := idx_at hz' hm
      refine ⟨_, (upd_ne nDf).trans q5, accl, (((KP.same (S := fun _ => False) q1).mut hf).mut hD0).toSame, ⟨putK kvs (.inl z) (.int (i : Nat)), (upd_ne nDf.symm).trans upd_same, Nat.le_trans (putK_len ..) (Nat.succ_le_succ p3), fun x => ?_⟩, by rw [upd_same, ← ek, ei]⟩
      rw [valV_put, take_next hz']
      by_cases hx : x = z
      · rw [if_pos (by rw [hx]), if_pos (List.mem_append_right _ (by rw [hx]; exact List.mem_cons_self)), hx, ei]
      · rw [if_neg (fun q => hx (Sum.inl.inj q)), p4 x]
        by_cases hx2 : x ∈ xs.take i
        · rw [if_pos hx2, if_pos (List.mem_append_left _ hx2)]
        · rw [if_neg hx2, if_neg (fun q => (List.mem_append.mp q).elim hx2 fun q => hx (List.mem_singleton.mp q))]
end
section
variable {P : Program} {w : World} {K : PySem.W.Frag} {mg : Str → Option Value} {base : Heap}
theorem ok_kof {f : Addr} {fd : FuncData} (A0 : Df K mg "kernel_of" s_kernel_of f fd P_kernel_of) (T : Txt mg) : FnOk P w K mg base CX0 1 f fd P_kernel_of (spKOf (SqT K)) := by
  refine A0.F.ok sc_kernel_of (fun vs H Q E h => ?_) (fun cdv A outer s H vs Q E hr h => ?_)
  · obtain ⟨a, xs, rfl, _⟩ := h
    rfl
  · obtain ⟨a, xs, rfl, ha, hz, k⟩ := h
    refine ⟨_, (pss_cons (ps_set (i := 1) sc_kernel_of.nd rfl (Or.inr rfl) pe_dnewK)
      (pss_one (ps_ret (pe_tupleOf (by rfl) T.tuple (pe_lc (own := [("index", 2), ("label", 3)]) (g := gTup K 2 (gCons (gName 2) (gCons (gName 3) gNil))) (tt := tYes) (te := tDSetd (tVar 1) (tVar 3) (tVar 2)) rfl sc_kernel_of.nd (pi_enumT (by rfl) T.enumerate (pa_cons (pv 0) pa_nil)) (blkOk_by (N := N_kernel_of) (sc := defScope s_kernel_of) (by decide +kernel)) (fun _ _ _ _ _ => (pg_tup rfl (pgs_cons (pg_name (i := 2) sc_kernel_of.nd rfl (Or.inl rfl)) (pgs_cons (pg_name (i := 3) sc_kernel_of.nd rfl (Or.inl rfl)) pgs_nil)))) (fun _ _ _ _ _ => pts_nil) (fun _ _ _ _ _ => (pe_dsetd (pv 1) (pv 3) (pv 2) ⟨rfl, rfl, rfl, rfl⟩))))))), ?_⟩
    refine fun f0 hf0 => ?_
    have ha' := sameT (Same.new (o := HO.dK []) hf0) ha
    have wk := walk_enumT (K := K) (a := a) (xs := xs.map V.int)
    rw [List.length_map] at wk
    refine ⟨_, rfl, a, _, rfl, ha', fun D hD => ?_⟩
    refine kof_lc (H1 := H) wk hf0 hD hz (fun H' S => sameT S ha) rfl (by show 3 < 4; decide) (fun H' S e => .inl ⟨D, _, rfl, SqL.of e, fun p hp => ?_⟩)
    exact k _ p (S.trans (Same.new hp)) (KP.free (S := fun _ => False) (KP.same S) (fun x => x.elim) hp) upd_same
theorem ok_kofL {f : Addr} {fd : FuncData} (A0 : Df K mg "kernel_of" s_kernel_of f fd P_kernel_of) (T : Txt mg) : FnOk P w K mg base CX0 1 f fd P_kernel_of (spKOf (SqL K)) := by
  refine A0.F.ok sc_kernel_of (fun vs H Q E h => ?_) (fun cdv A outer s H vs Q E hr h => ?_)
  · obtain ⟨a, xs, rfl, _⟩ := h
    rfl
  · obtain ⟨a, xs, rfl, ha, hz, k⟩ := h
    refine ⟨_, (pss_cons (ps_set (i := 1) sc_kernel_of.nd rfl (Or.inr rfl) pe_dnewK)
      (pss_one (ps_ret (pe_tupleOf (by rfl) T.tuple (pe_lc (own := [("index", 2), ("label", 3)]) (g := gTup K 2 (gCons (gName 2) (gCons (gName 3) gNil))) (tt := tYes) (te := tDSetd (tVar 1) (tVar 3) (tVar 2)) rfl sc_kernel_of.nd (pi_enum (by rfl) T.enumerate (pa_cons (pv 0) pa_nil)) (blkOk_by (N := N_kernel_of) (sc := defScope s_kernel_of) (by decide +kernel)) (fun _ _ _ _ _ => (pg_tup rfl (pgs_cons (pg_name (i := 2) sc_kernel_of.nd rfl (Or.inl rfl)) (pgs_cons (pg_name (i := 3) sc_kernel_of.nd rfl (Or.inl rfl)) pgs_nil)))) (fun _ _ _ _ _ => pts_nil) (fun _ _ _ _ _ => (pe_dsetd (pv 1) (pv 3) (pv 2) ⟨rfl, rfl, rfl, rfl⟩))))))), ?_⟩
    refine fun f0 hf0 => ?_
    have ha' := Same.seq (Same.new (o := HO.dK []) hf0) ha
    have wk := walk_enum (K := K) (a := a) (xs := xs.map V.int)
    rw [List.length_map] at wk
    refine ⟨_, rfl, a, _, rfl, ha', fun D hD => ?_⟩
    refine kof_lc (H1 := H) wk hf0 hD hz (fun H' S => Same.seq S ha) rfl (by show 3 < 4; decide) (fun H' S e => .inl ⟨D, _, rfl, SqL.of e, fun p hp => ?_⟩)
    exact k _ p (S.trans (Same.new hp)) (KP.free (S := fun _ => False) (KP.same S) (fun x => x.elim) hp) upd_same
end
end Lk

set_option Elab.async false
set_option linter.all false
set_option maxRecDepth 100000
set_option maxHeartbeats 4000000
namespace Lk
open PySem L2
theorem gridAt_step {A : Nat} {ts : List (Addr × List Int)} (O : RowsOk A ts) {s x : Int} (s0 : 0 ≤ s) (s1 : s < ts.length) (x0 : 0 ≤ x) (x1 : x < (A : Int)) : ∃ u, ts[s.toNat]? = some u ∧ u ∈ ts ∧ (u.2.map V.int)[x.toNat]? = some (V.int (stp (rsOf ts) s x)) ∧ 0 ≤ stp (rsOf ts) s x ∧ stp (rsOf ts) s x < ts.length := by
  have hlt : s.toNat < ts.length := by omega
  have hu := List.getElem?_eq_getElem hlt
  have hm := List.getElem_mem hlt
  obtain ⟨ru, rz⟩ := O.rs.row _ (mem_of_get (rsOf_get hu))
  have e : stp (rsOf ts) s x = (ts[s.toNat]).2.getD x.toNat 0 := by
    unfold stp
    rw [getD_of (rsOf_get hu)]
  have hx : x.toNat < (ts[s.toNat]).2.length := by rw [ru]; omega
  have e2 := item_of x0 (show x < ((ts[s.toNat]).2.length : Int) by omega) (0 : Int)
  have hz := rz _ (List.getElem_mem hx)
  rw [List.length_map] at hz
  have e3 : (ts[s.toNat]).2.getD x.toNat 0 = (ts[s.toNat]).2[x.toNat] := by
    rw [List.getD_eq_getElem?_getD, List.getElem?_eq_getElem hx] <;> rfl
  refine ⟨ts[s.toNat], hu, hm, ?_, by rw [e, e3]; exact hz.1, by rw [e, e3]; exact hz.2⟩
  rw [List.getElem?_map, e2, e]
  rfl
end Lk

set_option Elab.async false
set_option linter.all false
set_option maxRecDepth 100000
set_option maxHeartbeats 4000000
/-! tuples made while running of which more is known: that they have no dict (so their methods may be called) -/
namespace Lk
open PySem PySem.Spec PyProof.Rows L2
/-- a tuple at p, the object known to have no dict -/
def TupZ (H : Hp) (p : Addr) (ys : List V) : Prop := ∃ ob : Obj, H p = some (.frz ob (.tup ys)) ∧ ob.cls = .type "tuple" ∧ ob.dict = none
theorem TupZ.sq {K : PySem.W.Frag} {H : Hp} {p : Addr} {ys : List V} (x : TupZ H p ys) : SqT K H p ys := by
  obtain ⟨ob, h, _⟩ := x
  exact .inl (.inr ⟨ob, h⟩)
theorem TupZ.same {H H' : Hp} {p : Addr} {ys : List V} (x : TupZ H p ys) (S : Same H H') : TupZ H' p ys := by
  obtain ⟨ob, h, k⟩ := x
  exact ⟨ob, S _ _ h, k⟩
/-- tuple(xs) of a list -/
def rTupZ (K : PySem.W.Frag) : List V → Hp → VK → Prop := fun xs H Q => ∃ p ys, xs = [.ref p] ∧ SqL K H p ys ∧ ∀ (l : Addr) (ob : Obj), ob.cls = .type "tuple" → ob.dict = none → H l = none → Q (.ref l) (upd H l (.frz ob (.tup ys)))
theorem call_tupleZ {X : Cx} : CallR X (.type "tuple") (rTupZ X.K) := by
  rintro pins s σ H _ us Q I r ⟨p, ys, rfl, sq, go⟩
  obtain ⟨_, rfl, rx⟩ := Vals.one r
  cases rx
  obtain ⟨its, rv, pl, small⟩ := I.list sq
  have few := rv.length
  refine call_tuple_list pl.isList (fun h2 keep => ?_) (by rw [List.size_toArray]; omega)
  have I2 : L2.Inv X pins σ H ⟨h2, s.gens, s.drawn, s.toks, s.os⟩ := I.kept (t' := s.toks) keep
  have here : (h2.push { cls := .type "tuple", data := .seq its.toArray }).get? h2.objs.size = some { cls := .type "tuple", data := .seq its.toArray } := Heap.get?_push_size _ rfl
  have I3 := I2.laid (a := h2.objs.size) (o := .frz { cls := .type "tuple", data := .seq its.toArray } (.tup ys)) (t' := s.toks) (fun _ _ e => Heap.get?_push_of_some _ e) (Nat.le_refl _) ⟨here, small, its, rv, IsTup.new _ _⟩
  exact ⟨.ref h2.objs.size, _, I3, rfl, go _ _ rfl rfl (I2.hok.fresh (Nat.le_refl _))⟩
/-- t.index(i), the first place of an int -/
def rIdxZ (K : PySem.W.Frag) : V → List V → Hp → VK → Prop := fun x xs H Q => ∃ (p : Addr) (ys : List Int) (z : Int) (j : Nat), x = .ref p ∧ xs = [.int z] ∧ SqT K H p (ys.map V.int) ∧ ys[j]? = some z ∧ (∀ m, m < j → ys[m]? ≠ some z) ∧ Q (.int (j : Nat)) H
theorem flat_is : ∀ ys : List Int, (ys.map V.int).all flatV = true
  | [] => rfl
  | _ :: ys => flat_is ys
/-- the object of an int told -/
theorem ints_at {ys : List Int} {its : List Value} (r : Vals (ys.map V.int) its) {m : Nat} {y : Int} (h : ys[m]? = some y) : ∃ t, its[m]? = some (.int y t) := by
  obtain ⟨u, hu, t, rfl⟩ := r.get (i := m) (x := .int y) (by rw [List.getElem?_map, h] <;> rfl)
  exact ⟨t, hu⟩
theorem mt_idxZ {X : Cx} : MtR X "tuple.index" (rIdxZ X.K) := by
  rintro pins s σ H _ _ v us Q I rx rs ⟨p, ys, z, j, rfl, rfl, sq, found, first, go⟩
  obtain rfl : v = Value.ref p := rx
  obtain ⟨_, rfl, t, rfl⟩ := Vals.one rs
  obtain ⟨its, r, ⟨⟨c0, d0, x0, s0⟩, here, hc, n, hd⟩, _⟩ := I.tuple sq
  cases show c0 = .type "tuple" from hc
  cases show x0 = .seq its.toArray n from hd
  have few := r.length
  rw [List.length_map] at few
  have told : ∀ (m : Nat) (hm : m < its.toArray.size), ∃ y, ys[m]? = some y ∧ ∃ t, its.toArray[m] = .int y t := fun m hm => by
    have lm : m < ys.length := by rw [List.size_toArray] at hm; omega
    obtain ⟨t, e⟩ := ints_at r (List.getElem?_eq_getElem lm)
    exact ⟨_, List.getElem?_eq_getElem lm, t, by rw [List.getElem_toArray]; exact (List.getElem?_eq_some_iff.mp e).2⟩
  have room : j < its.toArray.size := by
    have := (List.getElem?_eq_some_iff.mp found).1
    rw [List.size_toArray]
    omega
  refine call_meets PySem.F.slot_tuple_index ⟨_, here, rfl⟩ PySem.F.entry_tuple_index (PySem.F.args_tuple_index_2 _ _)
    (TI.tuple_indexAt p its.toArray n d0 s0 (.int z t) (eqU (.int z)) j room ?_ fun m hm lt => ?_)
    ⟨here, fun u hu => mem_eqAt (x := .int z) ⟨t, rfl⟩ rfl r (flat_is ys) u (by simpa using hu), ⟨.int (j : Nat), H, I.tok _, ⟨_, rfl⟩, go⟩⟩
  · obtain ⟨y, e, t2, e2⟩ := told j room
    rw [e2, ← show z = y from Option.some.inj (found.symm.trans e)]
    exact beq_self_eq_true z
  · obtain ⟨y, e, t2, e2⟩ := told m hm
    rw [e2]
    exact beq_eq_false_iff_ne.mpr fun q => first m lt (q ▸ e)
/-! ### a method of such a tuple: t.m(e, ..) -/
def tZ (r : V → List V → Hp → VK → Prop) (to : TE) (t : TA) : TE := fun σ H Q => to σ H fun x H1 => (∃ p ys, x = .ref p ∧ TupZ H1 p ys) ∧ t σ H1 fun xs H2 => r x xs H2 Q
theorem pe_methodZ {X : Cx} {o e : Expr} {es : List Expr} {to : TE} {t : TA} {name : Str} {p1 p2 : Pos} {id : String} {r : V → List V → Hp → VK → Prop} (pa : PlainAttrs "tuple") (slot : Slot "tuple" name id) (ty : typeOf (.builtin id) = pure (.type "method_descriptor")) (hm : MtR X id r) (ho : PE X o to) (ha : PA X (e :: es) t)
    (h1 : attributeBase o name X.env (eval o X.env) = eval o X.env := by rfl)
    (h2 : ((backTo p2 (starEach (e :: es) X.env)).all (fun x => !x.1) && (backToKw p2 (keywordEach [] X.env)).all (fun x => x.1.isSome) && decide ((e :: es).length + ([] : List Keyword).length + (if ([] : List Keyword).isEmpty then 0 else 1) < 30)) = true := by rfl)
    (h3 : (p1.endLine == p2.line) = true := by rfl) (h4 : starEach (e :: es) X.env = (false, eval e X.env) :: starEach es X.env := by rfl) (h5 : (backTo p2 (starEach es X.env)).any (·.1) = false := by rfl) :
    PE X (.Call (.Attribute o name p1) (e :: es) [] p2) (tZ r to t) := by
  refine ⟨fun pins s σ H Q I h => wpAny_Call_method_late h1 h2 h3 rfl (thn (ho.run pins s σ H _ I h) ?_)⟩
  rintro v s1 ⟨x, H1, I1, rx, ⟨p, ys, rfl, z⟩, q⟩
  cases rx
  obtain ⟨ob, hp, hc, hd⟩ := z
  have at1 : s1.heap.get? p = some ob := (I1.hok p _ hp).1
  refine ⟨"tuple", id, pa, slot, ty, ⟨ob, at1, hc⟩, fun a ea => by
    cases ea
    exact ⟨ob, at1, hd⟩, ?_⟩
  have args := ha.run p2 pins s1 σ H1 _ I1 q
  rw [h4] at args ⊢
  refine Calls.callWith_builtin (by show (false || (backTo p2 (starEach es X.env)).any (·.1)) = false; rw [h5] <;> rfl) (Calls.evalArgs_plain (thn args ?_))
  rintro us s2 ⟨vs, H2, I2, rv, q2⟩
  exact hm pins s2 σ H2 (.ref p) vs (.ref p) us Q I2 rfl rv q2
end Lk

set_option Elab.async false
set_option linter.all false
set_option maxRecDepth 100000
set_option maxHeartbeats 4000000
namespace Lk
open PySem L2
abbrev s_law_kernel : Stmt := top 43
abbrev N_law_kernel : List Str := ["steps", "row", "found", "state"]
abbrev P_law_kernel : List Str := ["steps", "row"]
theorem sc_law_kernel : FnScope N_law_kernel P_law_kernel (defScope s_law_kernel) := ⟨rfl, rfl, rfl, by decide +kernel, rfl, by decide +kernel, by decide +kernel⟩
/-- for each label the first place at which it stands -/
def kerZ (xs : List Int) : List Int := xs.map fun x => ((xs.idxOf x : Nat) : Int)
def fZ (xs : List Int) : V → V
  | .int x => .int ((xs.idxOf x : Nat) : Int)
  | v => v
theorem idx_get {x : Int} {xs : List Int} (h : x ∈ xs) : xs[xs.idxOf x]? = some x ∧ ∀ m, m < xs.idxOf x → xs[m]? ≠ some x := by
  induction xs with
  | nil => cases h
  | cons y ys ih =>
    by_cases e : y = x
    · subst e
      rw [List.idxOf_cons_self]
      exact ⟨rfl, fun m hm => absurd hm (Nat.not_lt_zero m)⟩
    · have hm : x ∈ ys := (List.mem_cons.mp h).resolve_left fun q => e q.symm
      obtain ⟨h1, h2⟩ := ih hm
      have e1 : (y == x) = false := by simpa using e
      have e2 : (y :: ys).idxOf x = ys.idxOf x + 1 := by
        rw [List.idxOf_cons, e1]
        rfl
      rw [e2]
      refine ⟨h1, fun m hm2 => ?_⟩
      cases m with
      | zero => exact fun q => e (Option.some.inj q)
      | succ m => exact h2 m (by omega)
/-- the ends of a row from each state, in a tuple whose methods may be called -/
def spEffZ (K : PySem.W.Frag) : Sp := fun vs H Q _ => ∃ (a p : Addr) (A : Nat) (ts : List (Addr × List Int)) (ns : List Int), vs = [.ref a, .ref p] ∧ GridAt H a ts ∧ RowsOk A ts ∧ ts.length ≤ 1000 ∧ SqT K H p (ns.map V.int) ∧ (∀ c ∈ ns, 0 ≤ c ∧ c < (A : Int)) ∧
  ∀ (H' : Hp) (t : Addr), Same H H' → H t = none → TupZ H' t ((effs (rsOf ts) ns).map V.int) → Q (.ref t) H'
/-- the kernel of a row -/
def spKerZ (K : PySem.W.Frag) : Sp := fun vs H Q _ => ∃ (a p : Addr) (A : Nat) (ts : List (Addr × List Int)) (ns : List Int), vs = [.ref a, .ref p] ∧ GridAt H a ts ∧ RowsOk A ts ∧ ts.length ≤ 1000 ∧ SqT K H p (ns.map V.int) ∧ (∀ c ∈ ns, 0 ≤ c ∧ c < (A : Int)) ∧
  ∀ (H' : Hp) (t : Addr), Same H H' → H t = none → H' t = some (.tup ((kerZ (effs (rsOf ts) ns)).map V.int)) → Q (.ref t) H'
section
variable {P : Program} {w : World} {K : PySem.W.Frag} {mg : Str → Option Value} {base : Heap}
theorem ok_effZ {f fl : Addr} {fd fdl : FuncData} (A0 : Df K mg "_law_effect" s_law_effect f fd P_law_effect) (d_law_led : Df K mg "_law_led" s_law_led fl fdl P_law_led) (T : Txt mg) : FnOk P w K mg base CX0 2 f fd P_law_effect (spEffZ K) := by
  have G_law_led : FnOk P w K mg base CX0 1 fl fdl P_law_led (spLed K) := ok_led d_law_led T
  refine A0.F.ok sc_law_effect (fun vs H Q E h => ?_) (fun cdv A outer s H vs Q E hr h => ?_)
  · obtain ⟨a, p, A, ts, ns, rfl, _⟩ := h
    rfl
  · obtain ⟨a, p, A, ts, ns, rfl, G, R, h1, hp, hc, k⟩ := h
    refine ⟨_, (pss_one (ps_ret (pe_callTy call_tupleZ (by rfl) T.tuple (by decide +kernel) (pa_cons (pe_lc (own := [("state", 2)]) (g := gName 2) (tt := tYes) (te := tCall (spLed K) [] E0 (tCons (tVar 0) (tCons (tVar 2) (tCons (tVar 1) tNil)))) rfl sc_law_effect.nd (pi_range1 rfl T.range (pa_cons (pe_callB call_len_seq (by rfl) T.len PySem.boot_len (pa_cons (pv 0) pa_nil)) pa_nil)) (blkOk_by (N := N_law_effect) (sc := defScope s_law_effect) (by decide +kernel)) (fun _ _ _ _ _ => (pg_name (i := 2) sc_law_effect.nd rfl (Or.inl rfl))) (fun _ _ _ _ _ => pts_nil) (fun _ _ _ _ _ => (pe_call G_law_led (hr.mono (by decide)) rfl d_law_led.g d_law_led.F.kp d_law_led.b .nil pass0 (pa_cons (pv 0) (pa_cons (pv 2) (pa_cons (pv 1) pa_nil)))))) pa_nil)))), ?_⟩
    have hl : (rsOf ts).length = ts.length := List.length_map ..
    refine ⟨_, rfl, a, _, rfl, .inl (SqL.of G.top), _, rfl, by omega, by rw [List.length_map]; omega, fun q hq => ?_⟩
    rw [List.length_map]
    refine lcPR (fun i => V.int (led (rsOf ts) (i : Int) ns)) hq (by simp; omega) (fun i hi H1 S1 Q1 kQ => ?_) (fun H1 e S1 => ⟨q, _, rfl, SqL.of e, fun t ob oc od ht => ?_⟩)
    · simp at hi
      refine ⟨_, rfl, _, rfl, _, rfl, a, p, _, A, ts, ns, rfl, G.same S1, R, by omega, by omega, sameT S1 hp, hc, ?_⟩
      rw [Int.zero_add]
      exact kQ _ (Same.refl _)
    · refine k _ t (S1.trans (KP.new (S := fun _ => False) ht).toSame) (S1.free ht) ⟨ob, ?_, oc, od⟩
      rw [upd_same]
      unfold effs
      rw [hl, List.map_map]
      simp only [Int.sub_zero, Int.toNat_natCast]
      rfl
theorem ok_kerZ {f fe fl : Addr} {fd fde fdl : FuncData} (A0 : Df K mg "_law_kernel" s_law_kernel f fd P_law_kernel) (d_law_effect : Df K mg "_law_effect" s_law_effect fe fde P_law_effect) (d_law_led : Df K mg "_law_led" s_law_led fl fdl P_law_led) (T : Txt mg) : FnOk P w K mg base CX0 3 f fd P_law_kernel (spKerZ K) := by
  have G_law_effect : FnOk P w K mg base CX0 2 fe fde P_law_effect (spEffZ K) := ok_effZ d_law_effect d_law_led T
  refine A0.F.ok sc_law_kernel (fun vs H Q E h => ?_) (fun cdv A outer s H vs Q E hr h => ?_)
  · obtain ⟨a, p, A, ts, ns, rfl, _⟩ := h
    rfl
  · obtain ⟨a, p, A, ts, ns, rfl, G, R, h1, hp, hc, k⟩ := h
    refine ⟨_, (pss_cons (ps_set (i := 2) sc_law_kernel.nd rfl (Or.inr rfl) (pe_call G_law_effect (hr.mono (by decide)) rfl d_law_effect.g d_law_effect.F.kp d_law_effect.b .nil pass0 (pa_cons (pv 0) (pa_cons (pv 1) pa_nil))))
    (pss_one (ps_ret (pe_tupleOf (by rfl) T.tuple (pe_lc (own := [("state", 3)]) (g := gName 3) (tt := tYes) (te := tZ (rIdxZ K) (tVar 2) (tCons (tVar 3) tNil)) rfl sc_law_kernel.nd (pi_tup (pv 2)) (blkOk_by (N := N_law_kernel) (sc := defScope s_law_kernel) (by decide +kernel)) (fun _ _ _ _ _ => (pg_name (i := 3) sc_law_kernel.nd rfl (Or.inl rfl))) (fun _ _ _ _ _ => pts_nil) (fun _ _ _ _ _ => (pe_methodZ PySem.F.plainAttrs_tuple PySem.F.slot_tuple_index PySem.F.type_tuple_index mt_idxZ (pv 2) (pa_cons (pv 3) pa_nil)))))))), ?_⟩
    refine ⟨_, rfl, _, rfl, a, p, A, ts, ns, rfl, G, R, h1, hp, hc, fun H1 t S1 t0 Z => ?_⟩
    have le : (effs (rsOf ts) ns).length = ts.length := by
      unfold effs
      rw [List.length_map, List.length_range]
      exact List.length_map ..
    obtain ⟨fs, efs⟩ : ∃ fs, fs = effs (rsOf ts) ns := ⟨_, rfl⟩
    rw [← efs] at Z le k
    refine ⟨_, rfl, t, rfl, ⟨_, Z.sq⟩, fun q hq => ?_⟩
    refine lcPT (K := K) (a := t) (xs := fs.map V.int) (fZ fs) hq (by rw [List.length_map]; omega) (Z.same (Same.refl _)).sq (fun x hx H2 S2 Q2 kQ => ?_) (fun H2 e S2 => .inl ⟨q, _, rfl, SqL.of e, fun r hr => ?_⟩)
    · obtain ⟨c, hc2, rfl⟩ := List.mem_map.mp hx
      obtain ⟨g1, g2⟩ := idx_get hc2
      exact ⟨_, rfl, ⟨t, _, rfl, Z.same S2⟩, _, rfl, t, fs, c, fs.idxOf c, rfl, rfl, (Z.same S2).sq, g1, g2, kQ _ (Same.refl _)⟩
    · refine k _ r ((S1.trans S2).trans ((KP.new (S := fun _ => False) hr).toSame)) ((S1.trans S2).free hr) ?_
      rw [upd_same]
      unfold kerZ
      rw [List.map_map, List.map_map]
      rfl
end
end Lk

set_option Elab.async false
set_option linter.all false
set_option maxRecDepth 100000
set_option maxHeartbeats 4000000
/-! ### kernels of rows -/
namespace Lk
open PySem L2
abbrev InA (A : Nat) (ns : List Int) : Prop := ∀ c ∈ ns, 0 ≤ c ∧ c < (A : Int)
def kerR (rs : List (List Int)) (ns : List Int) : List Int := kerG (effs rs ns)
def pull (rs : List (List Int)) (one : List Int) (c : Int) : List Int := rs.map fun r => one.getD (r.getD c.toNat 0).toNat 0
theorem led_cons (rs : List (List Int)) (s c : Int) (ns : List Int) : led rs s (c :: ns) = led rs (stp rs s c) ns := rfl
theorem led_app (rs : List (List Int)) (s : Int) (a b : List Int) : led rs s (a ++ b) = led rs (led rs s a) b := List.foldl_append
theorem effs_len (rs : List (List Int)) (ns : List Int) : (effs rs ns).length = rs.length := by
  unfold effs
  rw [List.length_map, List.length_range]
theorem effs_get {rs : List (List Int)} {ns : List Int} {i : Nat} (h : i < rs.length) : (effs rs ns)[i]? = some (led rs (i : Int) ns) := by
  unfold effs
  rw [List.getElem?_map, List.getElem?_range h]
  rfl
theorem sm_effs {rs : List (List Int)} {ns : List Int} {i j : Nat} (hi : i < rs.length) (hj : j < rs.length) : sm (effs rs ns) i j ↔ led rs (i : Int) ns = led rs (j : Int) ns := by
  unfold sm
  rw [effs_get hi, effs_get hj]
  exact ⟨fun h => Option.some.inj h, fun h => by rw [h]⟩
theorem kerR_len (rs : List (List Int)) (ns : List Int) : (kerR rs ns).length = rs.length := by
  unfold kerR
  rw [ker_len, effs_len]
theorem sm_kerR {rs : List (List Int)} {ns : List Int} {i j : Nat} (hi : i < rs.length) (hj : j < rs.length) : sm (kerR rs ns) i j ↔ led rs (i : Int) ns = led rs (j : Int) ns := by
  unfold kerR
  rw [sm_ker (by rw [effs_len]; exact hi) (by rw [effs_len]; exact hj)]
  exact sm_effs hi hj
theorem kerR_in {rs : List (List Int)} {ns : List Int} : ∀ z ∈ kerR rs ns, 0 ≤ z ∧ z < (rs.length : Int) := fun z hz => by
  unfold kerR kerG at hz
  obtain ⟨x, hx, rfl⟩ := List.mem_map.mp hz
  have := List.idxOf_lt_length_iff.mpr hx
  rw [effs_len] at this
  omega
theorem kerR_parts (rs : List (List Int)) (ns : List Int) : kerR rs ns ∈ partsL rs.length := mem_parts.mpr ⟨kerR_len rs ns, ker_ker _⟩
theorem rs_get {A : Nat} {rs : List (List Int)} (R : Rs A rs) {i : Nat} (h : i < rs.length) {c : Int} (c0 : 0 ≤ c) (c1 : c < (A : Int)) : (rs[i]).getD c.toNat 0 = stp rs (i : Int) c ∧ 0 ≤ stp rs (i : Int) c ∧ stp rs (i : Int) c < (rs.length : Int) := by
  have e : (rs[i]).getD c.toNat 0 = stp rs (i : Int) c := by
    unfold stp
    rw [Int.toNat_natCast, List.getD_eq_getElem?_getD (l := rs), List.getElem?_eq_getElem h] <;> rfl
  refine ⟨e, ?_⟩
  have := R.led (ns := [c]) (s := (i : Int)) (by omega) (by omega) (fun z hz => by
    rw [List.mem_singleton.mp hz]
    exact ⟨c0, c1⟩)
  exact this
theorem pull_len (rs : List (List Int)) (one : List Int) (c : Int) : (pull rs one c).length = rs.length := List.length_map ..
theorem pull_get {A : Nat} {rs : List (List Int)} (R : Rs A rs) {one : List Int} {i : Nat} (h : i < rs.length) {c : Int} (c0 : 0 ≤ c) (c1 : c < (A : Int)) : (pull rs one c)[i]? = some (one.getD (stp rs (i : Int) c).toNat 0) := by
  unfold pull
  rw [List.getElem?_map, List.getElem?_eq_getElem h, ← (rs_get R h c0 c1).1]
  rfl
theorem ker_pull {A : Nat} {rs : List (List Int)} (R : Rs A rs) {ns : List Int} {c : Int} (c0 : 0 ≤ c) (c1 : c < (A : Int)) : kerG (pull rs (kerR rs ns) c) = kerR rs (c :: ns) := by
  show kerG (pull rs (kerR rs ns) c) = kerG (effs rs (c :: ns))
  refine ker_ext (by rw [pull_len, effs_len]) fun i j hi hj => ?_
  rw [pull_len] at hi hj
  obtain ⟨_, i0, i1⟩ := rs_get R hi c0 c1
  obtain ⟨_, j0, j1⟩ := rs_get R hj c0 c1
  rw [sm_effs hi hj, led_cons, led_cons]
  have h := sm_kerR (rs := rs) (ns := ns) (i := (stp rs (i : Int) c).toNat) (j := (stp rs (j : Int) c).toNat) (by omega) (by omega)
  rw [Int.toNat_of_nonneg i0, Int.toNat_of_nonneg j0] at h
  rw [← h]
  refine Iff.trans ?_ (getD_sm (L := kerR rs ns) (by rw [kerR_len]; omega) (by rw [kerR_len]; omega))
  unfold sm
  rw [pull_get R hi c0 c1, pull_get R hj c0 c1]
  exact ⟨fun q => Option.some.inj q, fun q => by rw [q]⟩
/-- what stands in the dict: kernel, where its row lies, its row -/
abbrev Ent := List Int × Addr × List Int
structure Few (rs : List (List Int)) (A : Nat) (es : List Ent) : Prop where
  ker : ∀ e ∈ es, InA A e.2.2 ∧ e.1 = kerR rs e.2.2
  all : ∀ ns, InA A ns → ∃ e ∈ es, e.1 = kerR rs ns
def Shut (rs : List (List Int)) (A : Nat) (ks : List (List Int)) (k : List Int) : Prop := ∀ c : Int, 0 ≤ c → c < (A : Int) → kerG (pull rs k c) ∈ ks
theorem Few.mk' {A : Nat} {rs : List (List Int)} (R : Rs A rs) {es : List Ent} (h : ∀ e ∈ es, InA A e.2.2 ∧ e.1 = kerR rs e.2.2) (h0 : kerR rs [] ∈ es.map (·.1)) (hc : ∀ k ∈ es.map (·.1), Shut rs A (es.map (·.1)) k) : Few rs A es := by
  refine ⟨h, fun ns => ?_⟩
  have : ∀ ns, InA A ns → kerR rs ns ∈ es.map (·.1) := by
    intro ns
    induction ns with
    | nil => exact fun _ => h0
    | cons c ns ih =>
      intro ha
      have ⟨c0, c1⟩ := ha c List.mem_cons_self
      rw [← ker_pull R c0 c1]
      exact hc _ (ih fun z hz => ha z (List.mem_cons_of_mem _ hz)) c c0 c1
  intro ha
  obtain ⟨e, he, q⟩ := List.mem_map.mp (this ns ha)
  exact ⟨e, he, q⟩
theorem nodup_le {α : Type} [DecidableEq α] : ∀ {ks ps : List α}, ks.Nodup → (∀ k ∈ ks, k ∈ ps) → ks.length ≤ ps.length
  | [], _, _, _ => Nat.zero_le _
  | k :: ks, ps, nd, h => by
    obtain ⟨n1, n2⟩ := List.nodup_cons.mp nd
    have hk := h k List.mem_cons_self
    have := nodup_le (ks := ks) (ps := ps.erase k) n2 fun x hx => (List.mem_erase_of_ne fun e => n1 (by rw [← e]; exact hx)).mpr (h x (List.mem_cons_of_mem _ hx))
    rw [List.length_erase_of_mem hk] at this
    have := List.length_pos_of_mem hk
    rw [List.length_cons]
    omega
theorem parts_six {m : Nat} (h : m ≤ 6) : (partsL m).length ≤ 203 := by
  match m, h with
  | 0, _ => decide +kernel
  | 1, _ => decide +kernel
  | 2, _ => decide +kernel
  | 3, _ => decide +kernel
  | 4, _ => decide +kernel
  | 5, _ => decide +kernel
  | 6, _ => decide +kernel
def kvOf (e : Ent) : List Key × V := (e.1.map Sum.inl, V.ref e.2.1)
theorem inl_inj : ∀ {a b : List Int}, (a.map Sum.inl : List Key) = b.map Sum.inl → a = b
  | [], [], _ => rfl
  | [], _ :: _, h => by cases h
  | _ :: _, [], h => by cases h
  | x :: a, y :: b, h => by
    rw [List.map_cons, List.map_cons] at h
    obtain ⟨h1, h2⟩ := List.cons.inj h
    rw [Sum.inl.inj h1, inl_inj h2]
theorem kv_ints (k : List Int) : (k.map Sum.inl : List Key).map kV = k.map V.int := by
  rw [List.map_map]
  rfl
theorem val_none {k : List Int} : ∀ {es : List Ent}, valV (es.map kvOf) (k.map Sum.inl) = none ↔ k ∉ es.map (·.1)
  | [] => ⟨fun _ h => (by cases h), fun _ => rfl⟩
  | e :: es => by
    rw [List.map_cons, List.map_cons, List.mem_cons, not_or]
    by_cases q : e.1 = k
    · rw [valV_pos (by show e.1.map Sum.inl = _; rw [q])]
      exact ⟨fun h => (by cases h), fun h => absurd q.symm h.1⟩
    · rw [valV_neg (fun z => q (inl_inj z)), val_none (es := es)]
      exact ⟨fun h => ⟨fun z => q z.symm, h⟩, fun h => h.2⟩
theorem val_some {k : List Int} : ∀ {es : List Ent}, k ∈ es.map (·.1) → ∃ e ∈ es, e.1 = k ∧ valV (es.map kvOf) (k.map Sum.inl) = some (V.ref e.2.1)
  | [], h => by cases h
  | e :: es, h => by
    by_cases q : e.1 = k
    · refine ⟨e, List.mem_cons_self, q, ?_⟩
      rw [List.map_cons, valV_pos (by show e.1.map Sum.inl = _; rw [q])]
      rfl
    · rw [List.map_cons, List.mem_cons] at h
      obtain ⟨f, hf, h1, h2⟩ := val_some (es := es) (h.resolve_left fun z => q z.symm)
      refine ⟨f, List.mem_cons_of_mem _ hf, h1, ?_⟩
      rw [List.map_cons, valV_neg (fun z => q (inl_inj z)), h2]
theorem val_is {k : List Int} {es : List Ent} : (valV (es.map kvOf) (k.map Sum.inl)).isSome = decide (k ∈ es.map (·.1)) := by
  by_cases h : k ∈ es.map (·.1)
  · obtain ⟨e, _, _, q⟩ := val_some h
    rw [q, decide_eq_true h]
    rfl
  · rw [val_none.mpr h, decide_eq_false h]
    rfl
/-- the search, as it stands -/
structure FewS (H0 H : Hp) (rs : List (List Int)) (A : Nat) (d : Addr) (es : List Ent) : Prop where
  S : Same H0 H
  d0 : H0 d = none
  top : H d = some (.dT (es.map kvOf))
  row : ∀ e ∈ es, H e.2.1 = some (.tup (e.2.2.map V.int))
  ker : ∀ e ∈ es, (InA A e.2.2 ∧ e.1 = kerR rs e.2.2) ∧ e.2.2.length < es.length
  nd : (es.map (·.1)).Nodup
variable {H0 H H' : Hp} {rs : List (List Int)} {A : Nat} {d : Addr} {es : List Ent}
theorem FewS.same (x : FewS H0 H rs A d es) (S : Same H H') : FewS H0 H' rs A d es := ⟨x.S.trans S, x.d0, S _ _ x.top, fun e he => S _ _ (x.row e he), x.ker, x.nd⟩
theorem FewS.few (x : FewS H0 H rs A d es) (hn : rs.length ≤ 6) : es.length ≤ 203 := by
  have := nodup_le (ps := partsL rs.length) x.nd fun k hk => by
    obtain ⟨e, he, rfl⟩ := List.mem_map.mp hk
    rw [(x.ker e he).1.2]
    exact kerR_parts _ _
  rw [List.length_map] at this
  exact Nat.le_trans this (parts_six hn)
theorem FewS.lst (x : FewS H0 H rs A d es) {l : Addr} {u v : List V} (l0 : H0 l = none) (hl : H l = some (.lst u)) : FewS H0 (upd H l (.lst v)) rs A d es := by
  have nl : ∀ a o, H a = some o → o ≠ .lst u → a ≠ l := fun a o h n e => n (by rw [e, hl] at h; exact (Option.some.inj h).symm)
  refine ⟨((KP.same (S := fun _ => False) x.S).mut l0).toSame, x.d0, ?_, fun e he => ?_, x.ker, x.nd⟩
  · rw [upd_ne (nl _ _ x.top (fun z => nomatch z))]
    exact x.top
  · rw [upd_ne (nl _ _ (x.row e he) (fun z => nomatch z))]
    exact x.row e he
theorem FewS.keep (x : FewS H0 H rs A d es) {v : List (List Key × V)} {a : Addr} {o : HO} (h : H a = some o) (n : ∀ w, o ≠ .dT w) : upd H d (.dT v) a = some o := by
  rw [upd_ne fun e => n _ (by rw [e, x.top] at h; exact (Option.some.inj h).symm)]
  exact h
theorem FewS.add (x : FewS H0 H rs A d es) {ns : List Int} {t : Addr} (ht : H t = some (.tup (ns.map V.int))) (ha : InA A ns) (hl : ns.length ≤ es.length) (hk : kerR rs ns ∉ es.map (·.1)) : FewS H0 (upd H d (.dT ((es ++ [(kerR rs ns, t, ns)]).map kvOf))) rs A d (es ++ [(kerR rs ns, t, ns)]) := by
  refine ⟨((KP.same (S := fun _ => False) x.S).mut x.d0).toSame, x.d0, upd_same, fun e he => ?_, fun e he => ?_, ?_⟩
  · rcases List.mem_append.mp he with q | q
    · exact x.keep (x.row e q) (fun _ z => nomatch z)
    · rw [List.mem_singleton.mp q]
      exact x.keep ht (fun _ z => nomatch z)
  · rw [List.length_append]
    rcases List.mem_append.mp he with q | q
    · exact ⟨(x.ker e q).1, Nat.lt_of_lt_of_le (x.ker e q).2 (Nat.le_add_right _ _)⟩
    · rw [List.mem_singleton.mp q]
      exact ⟨⟨ha, rfl⟩, Nat.lt_succ_of_le hl⟩
  · rw [List.map_append]
    refine List.nodup_append.mpr ⟨x.nd, by simp, fun a h1 b h2 e => ?_⟩
    rw [List.mem_singleton.mp h2] at e
    exact hk ((show a = kerR rs ns from e) ▸ h1)
end Lk

set_option Elab.async false
set_option linter.all false
set_option maxRecDepth 100000
set_option maxHeartbeats 4000000
/-! ### the first of the shortest rows -/
namespace Lk
open PySem L2
def lx : List Int → List Int → Prop
  | x :: a, y :: b => x < y ∨ (x = y ∧ lx a b)
  | _, _ => False
/-- a row stands ahead of another one: it is shorter, or as long and has the lesser entries -/
def SL (a b : List Int) : Prop := a.length < b.length ∨ (a.length = b.length ∧ lx a b)
def SLE (a b : List Int) : Prop := a = b ∨ SL a b
theorem lx_irr : ∀ {a : List Int}, ¬ lx a a
  | [], h => h
  | x :: a, h => by
    rcases h with h | ⟨_, h⟩
    · omega
    · exact lx_irr h
theorem lx_trans : ∀ {a b c : List Int}, lx a b → lx b c → lx a c
  | x :: a, y :: b, z :: c, h, k => by
    rcases h with h | ⟨h1, h2⟩
    · rcases k with k | ⟨k1, _⟩
      · exact .inl (by omega)
      · exact .inl (by omega)
    · rcases k with k | ⟨k1, k2⟩
      · exact .inl (by omega)
      · exact .inr ⟨by omega, lx_trans h2 k2⟩
  | [], _, _, h, _ => h.elim
  | _ :: _, [], _, h, _ => h.elim
  | _ :: _, _ :: _, [], _, k => k.elim
theorem SL.irr {a : List Int} : ¬ SL a a := fun h => h.elim (fun q => by omega) fun q => lx_irr q.2
theorem SL.trans {a b c : List Int} (h : SL a b) (k : SL b c) : SL a c := by
  rcases h with h | ⟨h1, h2⟩
  · rcases k with k | ⟨k1, _⟩
    · exact .inl (by omega)
    · exact .inl (by omega)
  · rcases k with k | ⟨k1, k2⟩
    · exact .inl (by omega)
    · exact .inr ⟨by omega, lx_trans h2 k2⟩
theorem SLE.anti {a b : List Int} (h : SLE a b) (k : SLE b a) : a = b := by
  rcases h with h | h
  · exact h
  · rcases k with k | k
    · exact k.symm
    · exact absurd (h.trans k) SL.irr
theorem SLE.trans {a b c : List Int} (h : SLE a b) (k : SLE b c) : SLE a c := by
  rcases h with rfl | h
  · exact k
  · rcases k with rfl | k
    · exact .inr h
    · exact .inr (h.trans k)
theorem SLE.len {a b : List Int} (h : SLE a b) : a.length ≤ b.length := by
  rcases h with rfl | h | h
  · exact Nat.le_refl _
  · omega
  · omega
theorem SL.cons {c : Int} {a b : List Int} (h : SL a b) : SL (c :: a) (c :: b) := by
  rcases h with h | ⟨h1, h2⟩
  · exact .inl (by simpa using h)
  · exact .inr ⟨by simp [h1], .inr ⟨rfl, h2⟩⟩
theorem SLE.cons {c : Int} {a b : List Int} (h : SLE a b) : SLE (c :: a) (c :: b) := h.elim (fun e => .inl (by rw [e])) fun q => .inr q.cons
theorem SL.lt {c d : Int} {a b : List Int} (h : a.length = b.length) (k : c < d) : SL (c :: a) (d :: b) := .inr ⟨by simp [h], .inl k⟩
/-- all that a level looks at is there, and no later than it was looked at -/
def Told1 (rs : List (List Int)) (es : List Ent) (r : List Int) : Prop := ∃ e ∈ es, e.1 = kerR rs r ∧ SLE e.2.2 r
theorem Told1.mono {rs : List (List Int)} {es es' : List Ent} {r : List Int} (h : Told1 rs es r) (hm : ∀ e ∈ es, e ∈ es') : Told1 rs es' r := by
  obtain ⟨e, he, q⟩ := h
  exact ⟨e, hm e he, q⟩
/-- what is closed up to a length -/
theorem told_step {A : Nat} {rs : List (List Int)} (R : Rs A rs) {es : List Ent} {n : Nat} (hk : ∀ e ∈ es, e.1 = kerR rs e.2.2) (h0 : ∀ r, InA A r → r.length ≤ n → Told1 rs es r) (h1 : ∀ e ∈ es, e.2.2.length ≤ n → ∀ c : Int, 0 ≤ c → c < (A : Int) → Told1 rs es (c :: e.2.2)) : ∀ r, InA A r → r.length ≤ n + 1 → Told1 rs es r := by
  intro r ha hl
  cases r with
  | nil => exact h0 [] ha (Nat.zero_le _)
  | cons c r =>
    have ⟨c0, c1⟩ := ha c List.mem_cons_self
    rw [List.length_cons] at hl
    obtain ⟨e, he, e1, e2⟩ := h0 r (fun z hz => ha z (List.mem_cons_of_mem _ hz)) (by omega)
    obtain ⟨e', he', e3, e4⟩ := h1 e he (Nat.le_trans e2.len (by omega)) c c0 c1
    exact ⟨e', he', by rw [e3, ← ker_pull R c0 c1, ← ker_pull R c0 c1, ← e1, hk e he], e4.trans e2.cons⟩
/-- the first of the shortest -/
def Least (rs : List (List Int)) (A : Nat) (k : List Int) (r : List Int) : Prop := InA A r ∧ kerR rs r = k ∧ ∀ r', InA A r' → kerR rs r' = k → SLE r r'
theorem Least.uniq {A : Nat} {rs : List (List Int)} {k r r' : List Int} (h : Least rs A k r) (h' : Least rs A k r') : r = r' := (h.2.2 r' h'.1 h'.2.1).anti (h'.2.2 r h.1 h.2.1)
/-- a link of the search: nothing, or a command and the kernel behind it -/
def Link (H : Hp) (es : List Ent) (e : Ent) : Prop := (e.2.2 = [] ∧ H e.2.1 = some (.tup [])) ∨ ∃ (c : Int) (t : Addr) (f : Ent), f ∈ es ∧ e.2.2 = c :: f.2.2 ∧ H e.2.1 = some (.tup [.int c, .ref t]) ∧ H t = some (.tup (f.1.map V.int))
structure CameAt (H : Hp) (d : Addr) (es : List Ent) : Prop where
  top : H d = some (.dT (es.map kvOf))
  row : ∀ e ∈ es, Link H es e
theorem Link.mono {H H' : Hp} {es es' : List Ent} {e : Ent} (x : Link H es e) (hk : ∀ a ys, H a = some (.tup ys) → H' a = some (.tup ys)) (hm : ∀ e ∈ es, e ∈ es') : Link H' es' e := by
  rcases x with ⟨h1, h2⟩ | ⟨c, t, f, h1, h2, h3, h4⟩
  · exact .inl ⟨h1, hk _ _ h2⟩
  · exact .inr ⟨c, t, f, hm f h1, h2, hk _ _ h3, hk _ _ h4⟩
theorem CameAt.same {H H' : Hp} {d : Addr} {es : List Ent} (x : CameAt H d es) (S : Same H H') : CameAt H' d es := ⟨S _ _ x.top, fun e he => (x.row e he).mono (fun a ys h => S _ _ h) fun _ h => h⟩
/-- the one entry of a kernel -/
theorem ent_one {es : List Ent} (nd : (es.map (·.1)).Nodup) {e f : Ent} (he : e ∈ es) (hf : f ∈ es) (h : e.1 = f.1) : e = f := by
  induction es with
  | nil => cases he
  | cons a es ih =>
    rw [List.map_cons, List.nodup_cons] at nd
    rcases List.mem_cons.mp he with q | q
    · rcases List.mem_cons.mp hf with r | r
      · rw [q, r]
      · exact absurd (List.mem_map.mpr ⟨f, r, by rw [← h, q]⟩) nd.1
    · rcases List.mem_cons.mp hf with r | r
      · exact absurd (List.mem_map.mpr ⟨e, q, by rw [h, r]⟩) nd.1
      · exact ih nd.2 q r
end Lk

set_option Elab.async false
set_option linter.all false
set_option maxRecDepth 100000
set_option maxHeartbeats 4000000
/-! comprehensions that write nothing but new objects, over any walk, with a test -/
namespace Lk
open PySem L2
theorem walk_zipT {K : PySem.W.Frag} {a b : Addr} {xs ys : List V} (hl : xs.length = ys.length) : Walk (RZ.ItzT K a b) xs.length (fun H => SqT K H a xs ∧ SqT K H b ys) (YPair (fun i => xs[i]?) (fun i => ys[i]?)) := by
  refine ⟨fun i H hi q => ?_, fun H q => ⟨xs, ys, q.1, q.2, Or.inl (Nat.le_refl _)⟩, fun i H v H' _ q y => ?_⟩
  · exact ⟨xs, ys, xs[i], ys[i], q.1, q.2, by simp [hi], by simp [hl ▸ hi]⟩
  · obtain ⟨T, x, z, h1, h2, h3, h4, h5⟩ := y
    exact ⟨T, x, z, h1, h2, h3, h4 xs q.1, h5 ys q.2⟩
theorem range_fm {opt : Nat → Option V} {i : Nat} : (List.range (i + 1)).filterMap opt = (List.range i).filterMap opt ++ (opt i).toList := by
  rw [List.range_succ, List.filterMap_append]
  congr 1
theorem fm_len {opt : Nat → Option V} (n : Nat) : ((List.range n).filterMap opt).length ≤ n := by
  have := List.length_filterMap_le opt (List.range n)
  rw [List.length_range] at this
  exact this
theorem fm_take (xs : List V) : ∀ i, i ≤ xs.length → (List.range i).filterMap (fun k => xs[k]?) = xs.take i
  | 0, _ => by rw [List.take_zero] <;> rfl
  | i + 1, h => by
    rw [range_fm, fm_take xs i (by omega), take_next (List.getElem?_eq_getElem (show i < xs.length by omega)), List.getElem?_eq_getElem (show i < xs.length by omega)]
    rfl
theorem fm_get (xs : List V) {n : Nat} (h : xs.length = n) : (List.range n).filterMap (fun k => xs[k]?) = xs := by
  rw [fm_take xs n (by omega), List.take_of_length_le (by omega)]
section
variable {J : It} {n : Nat} {G : Hp → Prop} {Y : Nat → Hp → V → Hp → Prop} {g : TG} {tt : TT} {te : TE} {vs : List Nat} {σ : St} {H1 : Hp} {D : Addr} {Qd : Hp → Prop}
theorem lcW (w : Walk J n G Y) (opt : Nat → Option V) (hD : H1 D = none) (hn : n ≤ 1000000) (hG : ∀ H, Same H1 H → G H)
    (hs : ∀ i x H H', i < n → Same H1 H → Y i H x H' → ∀ (N : Hp → Prop) (Q : VK), (opt i = none → ∀ H3, Same H H3 → N H3) → (∀ y, opt i = some y → ∀ H4, Same H H4 → Q y H4) → g x (wipe σ vs) H' fun σ2 H2 => wipe σ2 vs = wipe σ vs ∧ tt σ2 H2 fun b H3 => if b = true then te σ2 H3 Q else N H3)
    (hd : ∀ H', Same H1 H' → H' D = some (.lst ((List.range n).filterMap opt)) → Qd H') :
    ∃ W : Nat → Nat → Hp → Prop, (∃ m, W 0 m (upd H1 D (.lst []))) ∧ ∀ i m H, W i m H →
      (J.stop i H ∧ Qd H) ∨ (J.go i H ∧ ∃ Nx : Hp → Prop, (∀ H', Nx H' → ∃ m', m' < m ∧ W (i + 1) m' H') ∧ ∀ x H', J.yld i H x H' → g x (wipe σ vs) H' fun σ2 H2 => wipe σ2 vs = wipe σ vs ∧ tt σ2 H2 fun b H3 =>
        if b = true then te σ2 H3 fun y H4 => ∃ acc, H4 D = some (.lst acc) ∧ acc.length < sizeLine ∧ Nx (upd H4 D (.lst (acc ++ [y]))) else Nx H3) := by
  refine lc_it w (fun i H => Same H1 H ∧ H D = some (.lst ((List.range i).filterMap opt))) ⟨Same.new hD, upd_same⟩ (fun i H _ p => hG H p.1) (fun i x H H' hi p y => ?_) (fun H p => hd H p.1 p.2)
  refine hs i x H H' hi p.1 y _ _ (fun e H3 S3 => ⟨p.1.trans S3, ?_⟩) (fun z e H4 S4 => ⟨_, S4 _ _ p.2, ?_, ((KP.same (S := fun _ => False) (p.1.trans S4)).mut hD).toSame, ?_⟩)
  · rw [S3 _ _ p.2, range_fm, e]
    simp
  · exact Nat.lt_of_le_of_lt (Nat.le_trans (fm_len i) (Nat.le_trans (Nat.le_of_lt hi) hn)) (by decide)
  · rw [upd_same, range_fm, e]
    rfl
end
section
variable {K : PySem.W.Frag} {J : It} {n : Nat} {G : Hp → Prop} {tt : TT} {te : TE} {i j : Nat} {σ : St} {H1 : Hp} {D : Addr} {Qd : Hp → Prop}
/-- one name, the items told by val -/
theorem lcW1 (val : Nat → Option V) (w : Walk J n G fun i H x H' => H' = H ∧ val i = some x) (opt : Nat → Option V) (hD : H1 D = none) (hn : n ≤ 1000000) (hG : ∀ H, Same H1 H → G H)
    (hs : ∀ i x H, i < n → Same H1 H → val i = some x → ∀ (N : Hp → Prop) (Q : VK), (opt i = none → ∀ H3, Same H H3 → N H3) → (∀ y, opt i = some y → ∀ H4, Same H H4 → Q y H4) → tt ((wipe σ [j]).set j (some x)) H fun b H3 => if b = true then te ((wipe σ [j]).set j (some x)) H3 Q else N H3)
    (hd : ∀ H', Same H1 H' → H' D = some (.lst ((List.range n).filterMap opt)) → Qd H') :
    ∃ W : Nat → Nat → Hp → Prop, (∃ m, W 0 m (upd H1 D (.lst []))) ∧ ∀ i m H, W i m H →
      (J.stop i H ∧ Qd H) ∨ (J.go i H ∧ ∃ Nx : Hp → Prop, (∀ H', Nx H' → ∃ m', m' < m ∧ W (i + 1) m' H') ∧ ∀ x H', J.yld i H x H' → gName j x (wipe σ [j]) H' fun σ2 H2 => wipe σ2 [j] = wipe σ [j] ∧ tt σ2 H2 fun b H3 =>
        if b = true then te σ2 H3 fun y H4 => ∃ acc, H4 D = some (.lst acc) ∧ acc.length < sizeLine ∧ Nx (upd H4 D (.lst (acc ++ [y]))) else Nx H3) := by
  refine lcW w opt hD hn hG (fun i x H H' hi S y N Q h1 h2 => ?_) hd
  obtain ⟨rfl, e⟩ := y
  exact ⟨wipe1 _ _ _, hs i x H' hi S e N Q h1 h2⟩
/-- two names, new pairs told by f and g -/
theorem lcW2 (f g : Nat → Option V) (w : Walk J n G (YPair f g)) (opt : Nat → Option V) (hD : H1 D = none) (hn : n ≤ 1000000) (hG : ∀ H, Same H1 H → G H)
    (hs : ∀ k x y H, k < n → Same H1 H → f k = some x → g k = some y → ∀ (N : Hp → Prop) (Q : VK), (opt k = none → ∀ H3, Same H H3 → N H3) → (∀ y, opt k = some y → ∀ H4, Same H H4 → Q y H4) → tt (((wipe σ [i, j]).set i (some x)).set j (some y)) H fun b H3 => if b = true then te (((wipe σ [i, j]).set i (some x)).set j (some y)) H3 Q else N H3)
    (hd : ∀ H', Same H1 H' → H' D = some (.lst ((List.range n).filterMap opt)) → Qd H') :
    ∃ W : Nat → Nat → Hp → Prop, (∃ m, W 0 m (upd H1 D (.lst []))) ∧ ∀ k m H, W k m H →
      (J.stop k H ∧ Qd H) ∨ (J.go k H ∧ ∃ Nx : Hp → Prop, (∀ H', Nx H' → ∃ m', m' < m ∧ W (k + 1) m' H') ∧ ∀ x H', J.yld k H x H' → gTup K 2 (gCons (gName i) (gCons (gName j) gNil)) x (wipe σ [i, j]) H' fun σ2 H2 => wipe σ2 [i, j] = wipe σ [i, j] ∧ tt σ2 H2 fun b H3 =>
        if b = true then te σ2 H3 fun y H4 => ∃ acc, H4 D = some (.lst acc) ∧ acc.length < sizeLine ∧ Nx (upd H4 D (.lst (acc ++ [y]))) else Nx H3) := by
  refine lcW w opt hD hn hG (fun k x H H' hk S y N Q h1 h2 => ?_) hd
  obtain ⟨T, u, v, rfl, hT, rfl, e1, e2⟩ := y
  have S' : Same H (upd H T (.tup [u, v])) := Same.new hT
  refine ⟨T, _, rfl, SqT.of upd_same, rfl, _, _, rfl, _, _, rfl, rfl, wipe2 _ _, ?_⟩
  exact hs k u v _ hk (S.trans S') e1 e2 N Q (fun e H3 S3 => h1 e H3 (S'.trans S3)) (fun z e H4 S4 => h2 z e H4 (S'.trans S4))
end
theorem walk_rangeV {n : Nat} : Walk (Itr 0 n) n (fun _ => True) (fun i H x H' => H' = H ∧ (some (.int (i : Int)) : Option V) = some x) :=
  walk_range.mono (fun _ h => h) fun i H x H' hi _ y => ⟨y.1, by rw [y.2]; show some (V.int (i : Int)) = some (V.int (0 + (i : Int))); rw [Int.zero_add]⟩
end Lk

set_option Elab.async false
set_option linter.all false
set_option maxRecDepth 100000
set_option maxHeartbeats 4000000
namespace Lk
open PySem L2
theorem get_int {f : List Int} {i : Nat} {v : V} (h : (f.map V.int)[i]? = some v) : ∃ c, f[i]? = some c ∧ V.int c = v := by
  rw [List.getElem?_map] at h
  cases e : f[i]? with
  | none => rw [e] at h; cases h
  | some c => rw [e] at h; exact ⟨c, rfl, Option.some.inj h⟩
theorem flat_ints : ∀ ys : List Int, (ys.map V.int).all flatV = true
  | [] => rfl
  | _ :: ys => flat_ints ys
theorem fm_int (g : Nat → Option Int) (n : Nat) : (List.range n).filterMap (fun i => (g i).map V.int) = ((List.range n).filterMap g).map V.int := by
  rw [List.map_filterMap]
theorem idx_read {K : PySem.W.Frag} {H : Hp} {p : Addr} {ys : List Int} {z : Int} {Q : VK} (h : SqL K H p (ys.map V.int)) (hm : z ∈ ys) (k : Q (.int ((ys.idxOf z : Nat) : Int)) H) : rIndex K (.ref p) [.int z] H Q := by
  obtain ⟨g1, g2⟩ := idxG hm
  refine ⟨p, _, .int z, ys.idxOf z, .int z, rfl, rfl, h, rfl, flat_ints ys, by rw [List.getElem?_map, g1]; rfl, decide_eq_true rfl, fun m z' hm2 hz => ?_, k⟩
  obtain ⟨y, hy, rfl⟩ := get_int hz
  exact decide_eq_false fun e => g2 m hm2 (by rw [hy, e])
theorem range_fmG {α : Type} {opt : Nat → Option α} {i : Nat} : (List.range (i + 1)).filterMap opt = (List.range i).filterMap opt ++ (opt i).toList := by
  rw [List.range_succ, List.filterMap_append]
  congr 1
theorem fm_lenG {α : Type} {opt : Nat → Option α} (n : Nat) : ((List.range n).filterMap opt).length ≤ n := by
  have := List.length_filterMap_le opt (List.range n)
  rw [List.length_range] at this
  exact this
theorem fm_takeG {α : Type} (xs : List α) : ∀ i, i ≤ xs.length → (List.range i).filterMap (fun k => xs[k]?) = xs.take i
  | 0, _ => by rw [List.take_zero] <;> rfl
  | i + 1, h => by
    rw [range_fmG, fm_takeG xs i (by omega), take_next (List.getElem?_eq_getElem (show i < xs.length by omega)), List.getElem?_eq_getElem (show i < xs.length by omega)]
    rfl
theorem fm_mapG {α β : Type} (f : α → β) (xs : List α) : (List.range xs.length).filterMap (fun k => (xs[k]?).map f) = xs.map f := by
  have h := fm_takeG (xs.map f) xs.length (by rw [List.length_map]; exact Nat.le_refl _)
  rw [List.take_of_length_le (by rw [List.length_map]; exact Nat.le_refl _)] at h
  rw [← h]
  congr 1
  funext k
  rw [List.getElem?_map]
section
variable {J : It} {n : Nat} {G : Hp → Prop} {Y : Nat → Hp → V → Hp → Prop} {g : TG} {tt : TT} {te : TE} {vs : List Nat} {σ : St} {H1 : Hp} {D : Addr} {Qd : Hp → Prop}
theorem lcWL (w : Walk J n G Y) (opt : Nat → Option (List Int)) (hD : H1 D = none) (hn : n ≤ 1000000) (hG : ∀ H, Same H1 H → G H)
    (hs : ∀ i x H H', i < n → Same H1 H → Y i H x H' → ∀ (N : Hp → Prop) (Q : VK), (opt i = none → ∀ H3, Same H H3 → N H3) → (∀ d, opt i = some d → ∀ H4 t, Same H H4 → H t = none → H4 t = some (.lst (d.map V.int)) → Q (.ref t) H4) → g x (wipe σ vs) H' fun σ2 H2 => wipe σ2 vs = wipe σ vs ∧ tt σ2 H2 fun b H3 => if b = true then te σ2 H3 Q else N H3)
    (hd : ∀ H' ts, Same H1 H' → GridAt H' D ts → ts.map (·.2) = (List.range n).filterMap opt → Qd H') :
    ∃ W : Nat → Nat → Hp → Prop, (∃ m, W 0 m (upd H1 D (.lst []))) ∧ ∀ i m H, W i m H →
      (J.stop i H ∧ Qd H) ∨ (J.go i H ∧ ∃ Nx : Hp → Prop, (∀ H', Nx H' → ∃ m', m' < m ∧ W (i + 1) m' H') ∧ ∀ x H', J.yld i H x H' → g x (wipe σ vs) H' fun σ2 H2 => wipe σ2 vs = wipe σ vs ∧ tt σ2 H2 fun b H3 =>
        if b = true then te σ2 H3 fun y H4 => ∃ acc, H4 D = some (.lst acc) ∧ acc.length < sizeLine ∧ Nx (upd H4 D (.lst (acc ++ [y]))) else Nx H3) := by
  refine lc_it w (fun i H => Same H1 H ∧ ∃ ts, GridAt H D ts ∧ (∀ t ∈ ts, t.1 ≠ D) ∧ ts.map (·.2) = (List.range i).filterMap opt) ⟨Same.new hD, [], ⟨upd_same, fun t ht => by cases ht⟩, (fun t ht => by cases ht), rfl⟩ (fun i H _ p => hG H p.1) (fun i x H H' hi p y => ?_) (fun H p => by
    obtain ⟨S, ts, L, _, e⟩ := p
    exact hd H ts S L e)
  obtain ⟨S, ts, L, nD, e⟩ := p
  refine hs i x H H' hi S y _ _ (fun e2 H3 S3 => ⟨S.trans S3, ts, L.same S3, nD, ?_⟩) (fun z e2 H4 t S4 t0 ht => ⟨_, S4 _ _ L.top, ?_, ((KP.same (S := fun _ => False) (S.trans S4)).mut hD).toSame, ts ++ [(t, z)], (L.same S4).snoc ht (fun q => by rw [q, L.top] at t0; cases t0) nD, fun u hu => ?_, ?_⟩)
  · rw [e, range_fmG, e2]
    simp
  · have := congrArg List.length e
    rw [List.length_map] at this
    rw [List.length_map, this]
    exact Nat.lt_of_le_of_lt (Nat.le_trans (fm_lenG i) (Nat.le_trans (Nat.le_of_lt hi) hn)) (by decide)
  · rcases List.mem_append.mp hu with q | q
    · exact nD u q
    · rw [List.mem_singleton.mp q]
      exact fun q => by
        have q : t = D := q
        rw [q, L.top] at t0
        cases t0
  · rw [range_fmG, e2, List.map_append, e]
    rfl
end
theorem norm {f : St → Hp → Prop} {σ σ' : St} {H : Hp} (e : σ = σ') (h : f σ' H) : f σ H := by
  rw [e]
  exact h
theorem joinNameS {t rest : TS} {D : Ends} {i : Nat} {v : V} {σ : St} {H : Hp} {f : St → Hp → Prop} (e : f = tSeq t rest D) (R : Hp → Prop) (h : ∀ N : St → Hp → Prop, (∀ H', R H' → N (σ.set i (some v)) H') → t { D with nx := N } (σ.set i (some v)) H)
    (k : ∀ H', R H' → rest D (σ.set i (some v)) H') : gName i v σ H f := by
  subst e
  exact h _ k
theorem normG {g : TG} {u : V} {σ σ' : St} {H : Hp} {f : St → Hp → Prop} (e : σ = σ') (h : g u σ' H f) : g u σ H f := by
  rw [e]
  exact h
theorem join_if {c : TT} {ta tb : TE} {σ : St} {H : Hp} {Q : VK} (R : V → Hp → Prop) (h1 : ∀ Q' : VK, (∀ v H', R v H' → Q' v H') → tIf c ta tb σ H Q') (h2 : ∀ v H', R v H' → Q v H') : tIf c ta tb σ H Q := h1 Q h2
theorem joinNPar {te : TE} {tr : TA} {rest : TS} {D : Ends} {i j i0 : Nat} {v0 : V} {σ : St} {H : Hp} {f : St → Hp → Prop} (e : f = tSeq (tPar i j (tCons te tr)) rest D) (R : V → Hp → Prop) (h : ∀ Q' : VK, (∀ v H', R v H' → Q' v H') → te (σ.set i0 (some v0)) H Q')
    (k : ∀ v H', R v H' → tr (σ.set i0 (some v0)) H' fun xs H2 => ∃ u w, v :: xs = [u, w] ∧ rest D (((σ.set i0 (some v0)).set i (some u)).set j (some w)) H2) : gName i0 v0 σ H f := by
  subst e
  exact h _ k
structure ListT (H : Hp) (p : Addr) (ts : List (Addr × List Int)) : Prop where
  top : H p = some (.lst (ts.map fun t => V.ref t.1))
  row : ∀ t ∈ ts, H t.1 = some (.tup (t.2.map V.int))
theorem ListT.same {H H' : Hp} {p : Addr} {ts : List (Addr × List Int)} (x : ListT H p ts) (S : Same H H') : ListT H' p ts := ⟨S _ _ x.top, fun t ht => S _ _ (x.row t ht)⟩
theorem lay_rowsT (rs : List (List Int)) : SeqAt.shaped (.list (rs.map rowP)) = true := by
  have h1 : PyData.canLay0 (.list (rs.map rowP)) = true := canLay_rows rs
  have h2 : PyData.depth (.list (rs.map rowP)) = PyData.depthAll (rs.map rowP) + 1 := rfl
  have h3 := depth_rows rs
  unfold SeqAt.shaped
  rw [h1, Bool.true_and]
  exact decide_eq_true (by omega)
theorem dp_listT {K : PySem.W.Frag} {H : Hp} {p : Addr} {ts : List (Addr × List Int)} (L : ListT H p ts) : Dp K H (.ref p) (.list ((ts.map (·.2)).map rowP)) := by
  have e : (ts.map (·.2)) = rsOf ts := rfl
  rw [e]
  exact .lst (SqL.of L.top) (dp_rows L.row)
end Lk

set_option Elab.async false
set_option linter.all false
set_option maxRecDepth 100000
set_option maxHeartbeats 4000000
namespace Lk
open PySem L2
abbrev s_row_told : Stmt := top 29
abbrev N_row_told : List Str := ["came", "value", "row", "link"]
abbrev P_row_told : List Str := ["came", "value"]
theorem sc_row_told : FnScope N_row_told P_row_told (defScope s_row_told) := ⟨rfl, rfl, rfl, by decide +kernel, rfl, by decide +kernel, by decide +kernel⟩
def spTold : Sp := fun vs H Q _ => ∃ (d v : Addr) (es : List Ent) (e : Ent), vs = [.ref d, .ref v] ∧ CameAt H d es ∧ (es.map (·.1)).Nodup ∧ e ∈ es ∧ H v = some (.tup (e.1.map V.int)) ∧ e.2.2.length ≤ 52 ∧
  ∀ H' t, Same H H' → H' t = some (.tup (e.2.2.map V.int)) → Q (.ref t) H'
section
variable {P : Program} {w : World} {K : PySem.W.Frag} {mg : Str → Option Value} {base : Heap}
theorem ent_get {H : Hp} {d v : Addr} {es : List Ent} (C : CameAt H d es) (nd : (es.map (·.1)).Nodup) {e : Ent} (he : e ∈ es) (hv : H v = some (.tup (e.1.map V.int))) : DGet H d (V.ref v) (some (V.ref e.2.1)) := by
  obtain ⟨f, hf, e1, e2⟩ := val_some (List.mem_map.mpr ⟨e, he, rfl⟩ : e.1 ∈ es.map (·.1))
  obtain rfl := ent_one nd hf he e1
  rw [← e2]
  exact DGet.t C.top (by rw [kv_ints]; exact hv)
theorem ok_told {f : Addr} {fd : FuncData} (A0 : Df K mg "_row_told" s_row_told f fd P_row_told) (T : Txt mg) : FnOk P w K mg base CX0 1 f fd P_row_told spTold := by
  refine A0.F.ok sc_row_told (fun vs H Q E h => ?_) (fun cdv Ar outer s H vs Q E hr h => ?_)
  · obtain ⟨d, v, es, e, rfl, _⟩ := h
    rfl
  · obtain ⟨d, v, es, e, rfl, C, nd, he, hv, hz, k⟩ := h
    have hu : Ar.units + 3 + 64 < cLine := by have := hr.un; simp only [Around.deeper] at this; omega
    have hu1 : Ar.units + 3 + 1 < cLine := by omega
    refine ⟨_, (pss_cons (ps_set (i := 2) sc_row_told.nd rfl (Or.inl rfl) (pe_lst pa_nil))
    (pss_cons (ps_set (i := 3) sc_row_told.nd rfl (Or.inl rfl) (pe_dget hu1 (pv 0) (pv 1) (fun _ _ => rfl)))
    (pss_cons (ps_while PassesOwn.never (pt_truth (pv 3) (fun _ => rfl))
      (pss_cons (ps_expr (pe_bm PySem.F.plainAttrs_list PySem.F.slot_list_append PySem.F.type_list_append mt_append (pv 2) (pa_cons (pe_ix ix_tup (pv 3) pe_int (fun _ _ => rfl)) pa_nil)))
      (pss_one (ps_set (i := 3) sc_row_told.nd rfl (Or.inl rfl) (pe_dget hu1 (pv 0) (pe_ix ix_tup (pv 3) pe_int (fun _ _ => rfl)) (fun _ _ => rfl))))))
    (pss_one (ps_ret (pe_tupleOf (by rfl) T.tuple (pv 2))))))), ?_⟩
    refine ⟨Nat.zero_le _, fun l hl => ?_⟩
    refine norm (σ' := [some (.ref d), some (.ref v), some (.ref l), none]) rfl ?_
    have S1 : Same H (upd H l (.lst [])) := Same.new hl
    refine ⟨_, rfl, _, rfl, d, _, rfl, ent_get (C.same S1) nd he (S1 _ _ hv), ?_⟩
    refine norm (σ' := [some (.ref d), some (.ref v), some (.ref l), some (.ref e.2.1)]) rfl ?_
    refine ⟨fun μ σ U => ∃ (ps : List Int) (f : Ent), σ = [some (.ref d), some (.ref v), some (.ref l), some (.ref f.2.1)] ∧ Same H U ∧ U l = some (.lst (ps.map V.int)) ∧ f ∈ es ∧ e.2.2 = ps ++ f.2.2 ∧ μ = f.2.2.length, ⟨_, [], e, rfl, S1, upd_same, he, rfl, rfl⟩, ?_⟩
    rintro μ σ U ⟨ps, f, rfl, S, hL, hf, eq, rfl⟩
    have C' := C.same S
    have lz : ps.length ≤ 52 := by
      have := congrArg List.length eq
      rw [List.length_append] at this
      omega
    rcases C'.row f hf with ⟨h1, h2⟩ | ⟨c, t, g, h1, h2, h3, h4⟩
    · refine ⟨_, rfl, false, .inr (.inl ⟨_, SqT.of h2, rfl⟩), iteF ⟨_, rfl, ?_⟩⟩
      refine .inl ⟨l, _, rfl, SqL.of hL, fun t ht => ?_⟩
      rw [h1, List.append_nil] at eq
      rw [eq] at k
      exact k _ t (S.trans (Same.new ht)) upd_same
    · refine ⟨_, rfl, true, .inr (.inl ⟨_, SqT.of h3, rfl⟩), iteT ⟨fun σ' U => ∃ μ', μ' < f.2.2.length ∧ ∃ (ps : List Int) (f : Ent), σ' = [some (.ref d), some (.ref v), some (.ref l), some (.ref f.2.1)] ∧ Same H U ∧ U l = some (.lst (ps.map V.int)) ∧ f ∈ es ∧ e.2.2 = ps ++ f.2.2 ∧ μ' = f.2.2.length, fun _ _ h => h, ?_⟩⟩
      have S2 : Same H (upd U l (.lst ((ps ++ [c]).map V.int))) := ((KP.same (S := fun _ => False) S).mut hl).toSame
      have kt : ∀ {a : Addr} {ys : List V}, U a = some (.tup ys) → upd U l (.lst ((ps ++ [c]).map V.int)) a = some (.tup ys) := fun {a ys} h => (upd_ne (ne_of h hL (fun z => nomatch z))).trans h
      have ea : (ps ++ [c]).map V.int = ps.map V.int ++ [V.int c] := by rw [List.map_append] <;> rfl
      rw [ea] at S2 kt
      refine ⟨_, rfl, .inl ⟨rfl, _, SqL.of hL⟩, _, rfl, f.2.1, _, 0, V.int c, rfl, rfl, SqT.of h3, atI_int (by decide) rfl, l, _, _, rfl, rfl, hL, Nat.lt_of_le_of_lt (show _ ≤ 52 by rw [List.length_map]; exact lz) (by decide), ?_⟩
      refine ⟨_, rfl, _, rfl, f.2.1, _, 1, V.ref t, rfl, rfl, SqT.of (kt h3), atI_int (by decide) rfl, d, _, rfl, ent_get (C.same S2) nd h1 (kt h4), ?_⟩
      refine ⟨_, ?_, ps ++ [c], g, rfl, S2, by rw [upd_same, ea], h1, by rw [eq, h2, List.append_assoc] <;> rfl, rfl⟩
      rw [h2, List.length_cons]
      omega
end
end Lk

set_option Elab.async false
set_option linter.all false
set_option maxRecDepth 100000
set_option maxHeartbeats 8000000
namespace Lk
open PySem L2
abbrev s_law_kernels : Stmt := top 44
abbrev N_law_kernels : List Str := ["commands", "steps", "many", "found", "fresh", "later", "one", "command", "led", "state", "longer"]
abbrev P_law_kernels : List Str := ["commands", "steps"]
theorem sc_law_kernels : FnScope N_law_kernels P_law_kernels (defScope s_law_kernels) := ⟨rfl, rfl, rfl, by decide +kernel, rfl, by decide +kernel, by decide +kernel⟩
theorem parts_five {m : Nat} (h : m ≤ 5) : (partsL m).length ≤ 52 := by
  match m, h with
  | 0, _ => decide +kernel
  | 1, _ => decide +kernel
  | 2, _ => decide +kernel
  | 3, _ => decide +kernel
  | 4, _ => decide +kernel
  | 5, _ => decide +kernel
theorem perm_back {α β : Type} {f : α → β} {ys zs : List β} (h : ys.Perm zs) : ∀ {ks : List α}, zs = ks.map f → ∃ ks' : List α, ks'.Perm ks ∧ ys = ks'.map f := by
  induction h with
  | nil =>
    intro ks e
    exact ⟨[], by rw [List.map_eq_nil_iff.mp e.symm], rfl⟩
  | cons x h ih =>
    intro ks e
    cases ks with
    | nil => cases e
    | cons k ks =>
      injection e with e1 e2
      obtain ⟨ks', p, q⟩ := ih e2
      exact ⟨k :: ks', p.cons k, by rw [e1, q] <;> rfl⟩
  | swap x y l =>
    intro ks e
    match ks, e with
    | a :: b :: ks, e =>
      injection e with e1 e2
      injection e2 with e2 e3
      exact ⟨b :: a :: ks, .swap a b ks, by rw [e1, e2, e3] <;> rfl⟩
  | trans h1 h2 ih1 ih2 =>
    intro ks e
    obtain ⟨k2, p2, q2⟩ := ih2 e
    obtain ⟨k1, p1, q1⟩ := ih1 q2
    exact ⟨k1, p1.trans p2, q1⟩
theorem any_rowsK (fs : List (List Int)) (p : List Int) : ((fs.map rowP).any fun z => PyData.eqv z (rowP p)) = decide (p ∈ fs) := by
  rw [Bool.eq_iff_iff, List.any_eq_true, decide_eq_true_iff]
  constructor
  · rintro ⟨z, hz, e⟩
    obtain ⟨q, hq, rfl⟩ := List.mem_map.mp hz
    have e : PyData.eqvAll (q.map PyData.int) (p.map PyData.int) = true := e
    rw [eqv_ints, decide_eq_true_iff] at e
    rw [← e]
    exact hq
  · intro h
    refine ⟨rowP p, List.mem_map.mpr ⟨p, h, rfl⟩, ?_⟩
    show PyData.eqvAll (p.map PyData.int) (p.map PyData.int) = true
    rw [eqv_ints, decide_eq_true rfl]
theorem shaped_rowK (bs : List Int) : SeqAt.shaped (rowP bs) = true := by
  have h := shaped_ints bs
  exact h
/-- all kernels of rows, ascending -/
structure Kers (rs : List (List Int)) (A : Nat) (kt : List (Addr × List Int)) : Prop where
  ker : ∀ t ∈ kt, ∃ ns, InA A ns ∧ t.2 = kerR rs ns
  all : ∀ ns, InA A ns → kerR rs ns ∈ kt.map (·.2)
  nd : (kt.map (·.2)).Nodup
  srt : kt.Pairwise fun x y => TS.code 16 x.2 ≤ TS.code 16 y.2
structure KerL (H0 U : Hp) (rs : List (List Int)) (A : Nat) (fl l fp : Addr) (n0 : Nat) (kt lt fr : List (Addr × List Int)) : Prop where
  S : Same H0 U
  f0 : H0 fl = none
  l0 : H0 l = none
  F : ListT U fl kt
  L : ListT U l lt
  Fr : ListT U fp fr
  n1 : fp ≠ l
  n2 : fp ≠ fl
  n3 : fl ≠ l
  ker : ∀ t ∈ kt, ∃ ns, InA A ns ∧ t.2 = kerR rs ns
  nd : (kt.map (·.2)).Nodup
  inl : ∀ t ∈ lt, t.2 ∈ kt.map (·.2)
  inf : ∀ t ∈ fr, t.2 ∈ kt.map (·.2)
  cnt : lt.length + n0 = kt.length
  idle : kerR rs [] ∈ kt.map (·.2)
section
variable {H0 U U' : Hp} {rs : List (List Int)} {A : Nat} {fl l fp : Addr} {n0 : Nat} {kt lt fr : List (Addr × List Int)}
theorem KerL.same (x : KerL H0 U rs A fl l fp n0 kt lt fr) (S : Same U U') : KerL H0 U' rs A fl l fp n0 kt lt fr :=
  ⟨x.S.trans S, x.f0, x.l0, x.F.same S, x.L.same S, x.Fr.same S, x.n1, x.n2, x.n3, x.ker, x.nd, x.inl, x.inf, x.cnt, x.idle⟩
theorem kers_few (hn : rs.length ≤ 5) (ker : ∀ t ∈ kt, ∃ ns, InA A ns ∧ t.2 = kerR rs ns) (nd : (kt.map (·.2)).Nodup) : kt.length ≤ 52 := by
  have := nodup_le (ps := partsL rs.length) nd fun k hk => by
    obtain ⟨t, ht, rfl⟩ := List.mem_map.mp hk
    obtain ⟨ns, _, e⟩ := ker t ht
    rw [e]
    exact kerR_parts _ _
  rw [List.length_map] at this
  exact Nat.le_trans this (parts_five hn)
theorem KerL.add (x : KerL H0 U rs A fl l fp n0 kt lt fr) {ns : List Int} {t : Addr} (ht : U t = some (.tup ((kerR rs ns).map V.int))) (ha : InA A ns) (hk : kerR rs ns ∉ kt.map (·.2)) :
    KerL H0 (upd (upd U fl (.lst ((kt.map fun t => V.ref t.1) ++ [V.ref t]))) l (.lst ((lt.map fun t => V.ref t.1) ++ [V.ref t]))) rs A fl l fp n0 (kt ++ [(t, kerR rs ns)]) (lt ++ [(t, kerR rs ns)]) fr := by
  have hl1 : upd U fl (.lst ((kt.map fun t => V.ref t.1) ++ [V.ref t])) l = some (.lst (lt.map fun t => V.ref t.1)) := by
    rw [upd_ne x.n3.symm]
    exact x.L.top
  have kp : ∀ {a : Addr} {ys : List V}, U a = some (.tup ys) → upd (upd U fl (.lst ((kt.map fun t => V.ref t.1) ++ [V.ref t]))) l (.lst ((lt.map fun t => V.ref t.1) ++ [V.ref t])) a = some (.tup ys) := fun {a ys} h => by
    rw [upd_ne (ne_of h x.L.top (fun z => nomatch z)), upd_ne (ne_of h x.F.top (fun z => nomatch z))]
    exact h
  have km : ∀ k, k ∈ kt.map (·.2) → k ∈ (kt ++ [(t, kerR rs ns)]).map (·.2) := fun k h => by
    rw [List.map_append]
    exact List.mem_append_left _ h
  have kn : kerR rs ns ∈ (kt ++ [(t, kerR rs ns)]).map (·.2) := by
    rw [List.map_append]
    exact List.mem_append_right _ List.mem_cons_self
  refine ⟨(((KP.same (S := fun _ => False) x.S).mut x.f0).mut x.l0).toSame, x.f0, x.l0, ⟨?_, fun u hu => ?_⟩, ⟨?_, fun u hu => ?_⟩, ⟨?_, fun u hu => kp (x.Fr.row u hu)⟩, x.n1, x.n2, x.n3, fun u hu => ?_, ?_, fun u hu => ?_, fun u hu => km _ (x.inf u hu), ?_, km _ x.idle⟩
  · rw [upd_ne x.n3, upd_same, List.map_append]
    rfl
  · rcases List.mem_append.mp hu with q | q
    · exact kp (x.F.row u q)
    · rw [List.mem_singleton.mp q]
      exact kp ht
  · rw [upd_same, List.map_append]
    rfl
  · rcases List.mem_append.mp hu with q | q
    · exact kp (x.L.row u q)
    · rw [List.mem_singleton.mp q]
      exact kp ht
  · rw [upd_ne x.n1, upd_ne x.n2]
    exact x.Fr.top
  · rcases List.mem_append.mp hu with q | q
    · exact x.ker u q
    · rw [List.mem_singleton.mp q]
      exact ⟨ns, ha, rfl⟩
  · rw [List.map_append]
    refine List.nodup_append.mpr ⟨x.nd, by simp, fun a h1 b h2 e => ?_⟩
    rw [List.mem_singleton.mp h2] at e
    exact hk ((show a = kerR rs ns from e) ▸ h1)
  · rcases List.mem_append.mp hu with q | q
    · exact km _ (x.inl u q)
    · rw [List.mem_singleton.mp q]
      exact kn
  · rw [List.length_append, List.length_append, ← x.cnt]
    simp only [List.length_cons, List.length_nil]
    omega
end
end Lk

set_option Elab.async false
set_option linter.all false
set_option maxRecDepth 100000
set_option maxHeartbeats 4000000
/-! the search for the first of the shortest rows, as it stands -/
namespace Lk
open PySem L2
abbrev Lvl := Addr × Ent
def lvT (lv : List Lvl) : List (Addr × List Int) := lv.map fun p => (p.1, p.2.1)
structure SeaS (H0 U : Hp) (rs : List (List Int)) (A : Nat) (d : Addr) (es : List Ent) (n m : Nat) : Prop where
  S : Same H0 U
  d0 : H0 d = none
  C : CameAt U d es
  ker : ∀ e ∈ es, (InA A e.2.2 ∧ e.1 = kerR rs e.2.2) ∧ e.2.2.length < es.length ∧ e.2.2.length ≤ m
  nd : (es.map (·.1)).Nodup
  told : ∀ r, InA A r → r.length ≤ n → Told1 rs es r
structure LvA (U : Hp) (l : Addr) (es : List Ent) (lv : List Lvl) (n : Nat) : Prop where
  L : ListT U l (lvT lv)
  mem : ∀ p ∈ lv, p.2 ∈ es ∧ p.2.2.2.length = n
  all : ∀ e ∈ es, e.2.2.length = n → ∃ p ∈ lv, p.2 = e
  asc : lv.Pairwise fun p q => SL p.2.2.2 q.2.2.2
structure SeaI (H0 U : Hp) (rs : List (List Int)) (A : Nat) (d l f : Addr) (n k0 : Nat) (es : List Ent) (lv fw : List Lvl) (i j : Nat) : Prop where
  X : SeaS H0 U rs A d es n (n + 1)
  f0 : H0 f = none
  ne : l ≠ f
  Lv : LvA U l es lv n
  Fw : LvA U f es fw (n + 1)
  cnt : fw.length + k0 = es.length
  src : ∀ p ∈ fw, ∃ (c j' : Nat) (q : Lvl), lv[j']? = some q ∧ p.2.2.2 = (c : Int) :: q.2.2.2 ∧ (c < i ∨ c = i ∧ j' < j)
  done : ∀ (c j' : Nat) (q : Lvl), lv[j']? = some q → (c < i ∨ c = i ∧ j' < j) → Told1 rs es ((c : Int) :: q.2.2.2)
section
variable {H0 U U' : Hp} {rs : List (List Int)} {A : Nat} {d l f : Addr} {n m k0 i j : Nat} {es : List Ent} {lv fw : List Lvl}
theorem SeaS.same (x : SeaS H0 U rs A d es n m) (S : Same U U') : SeaS H0 U' rs A d es n m := ⟨x.S.trans S, x.d0, x.C.same S, x.ker, x.nd, x.told⟩
theorem LvA.same (x : LvA U l es lv n) (S : Same U U') : LvA U' l es lv n := ⟨x.L.same S, x.mem, x.all, x.asc⟩
theorem SeaI.same (x : SeaI H0 U rs A d l f n k0 es lv fw i j) (S : Same U U') : SeaI H0 U' rs A d l f n k0 es lv fw i j := ⟨x.X.same S, x.f0, x.ne, x.Lv.same S, x.Fw.same S, x.cnt, x.src, x.done⟩
theorem SeaS.few (x : SeaS H0 U rs A d es n m) (hn : rs.length ≤ 5) : es.length ≤ 52 := by
  have := nodup_le (ps := partsL rs.length) x.nd fun k hk => by
    obtain ⟨e, he, rfl⟩ := List.mem_map.mp hk
    rw [(x.ker e he).1.2]
    exact kerR_parts _ _
  rw [List.length_map] at this
  exact Nat.le_trans this (parts_five hn)
theorem SeaI.next (x : SeaI H0 U rs A d l f n k0 es lv fw i lv.length) : SeaI H0 U rs A d l f n k0 es lv fw (i + 1) 0 := by
  refine ⟨x.X, x.f0, x.ne, x.Lv, x.Fw, x.cnt, fun p hp => ?_, fun c j' q hq h => ?_⟩
  · obtain ⟨c, j', q, h1, h2, h3⟩ := x.src p hp
    exact ⟨c, j', q, h1, h2, .inl (by omega)⟩
  · refine x.done c j' q hq ?_
    have := (List.getElem?_eq_some_iff.mp hq).1
    omega
theorem SeaI.fin (R : Rs A rs) (x : SeaI H0 U rs A d l f n k0 es lv fw A 0) : SeaS H0 U rs A d es (n + 1) (n + 1) ∧ LvA U f es fw (n + 1) := by
  refine ⟨⟨x.X.S, x.X.d0, x.X.C, x.X.ker, x.X.nd, told_step R (fun e he => (x.X.ker e he).1.2) x.X.told fun e he hl c c0 c1 => ?_⟩, x.Fw⟩
  by_cases q : e.2.2.length = n
  · obtain ⟨p, hp, rfl⟩ := x.Lv.all e he q
    obtain ⟨j', hj⟩ := List.mem_iff_getElem?.mp hp
    have := x.done c.toNat j' p hj (.inl (by omega))
    rw [Int.toNat_of_nonneg c0] at this
    exact this
  · refine x.X.told _ (fun z hz => (List.mem_cons.mp hz).elim (fun e => by rw [e]; exact ⟨c0, c1⟩) ((x.X.ker e he).1.1 z)) ?_
    rw [List.length_cons]
    omega
/-- all that was put in stands ahead of what comes -/
theorem SeaI.ahead (x : SeaI H0 U rs A d l f n k0 es lv fw i j) {q : Lvl} (hq : lv[j]? = some q) {e : Ent} (he : e ∈ es) : SL e.2.2 ((i : Int) :: q.2.2.2) := by
  have hql := (x.Lv.mem q (List.mem_of_getElem? hq)).2
  have hl := (x.X.ker e he).2.2
  by_cases w : e.2.2.length = n + 1
  · obtain ⟨p, hp, rfl⟩ := x.Fw.all e he w
    obtain ⟨c, j', q', h1, h2, h3⟩ := x.src p hp
    have hql' := (x.Lv.mem q' (List.mem_of_getElem? h1)).2
    rw [h2]
    rcases h3 with h3 | ⟨rfl, h3⟩
    · exact .lt (by omega) (by omega)
    · refine SL.cons ?_
      obtain ⟨a1, rfl⟩ := List.getElem?_eq_some_iff.mp h1
      obtain ⟨a2, rfl⟩ := List.getElem?_eq_some_iff.mp hq
      exact List.pairwise_iff_getElem.mp x.Lv.asc j' j a1 a2 h3
  · exact .inl (by rw [List.length_cons]; omega)
theorem SeaI.pass (x : SeaI H0 U rs A d l f n k0 es lv fw i j) {q : Lvl} (hq : lv[j]? = some q) (h : kerR rs ((i : Int) :: q.2.2.2) ∈ es.map (·.1)) : SeaI H0 U rs A d l f n k0 es lv fw i (j + 1) := by
  refine ⟨x.X, x.f0, x.ne, x.Lv, x.Fw, x.cnt, fun p hp => ?_, fun c j' q' hq' hc => ?_⟩
  · obtain ⟨c, j', q, h1, h2, h3⟩ := x.src p hp
    exact ⟨c, j', q, h1, h2, by omega⟩
  · by_cases w : c < i ∨ c = i ∧ j' < j
    · exact x.done c j' q' hq' w
    · obtain ⟨rfl, rfl⟩ : c = i ∧ j' = j := by omega
      rw [hq] at hq'
      obtain rfl := Option.some.inj hq'
      obtain ⟨e, he, e1⟩ := List.mem_map.mp h
      exact ⟨e, he, e1, .inr (x.ahead hq he)⟩
theorem SeaI.add (x : SeaI H0 U rs A d l f n k0 es lv fw i j) (hi : i < A) {q : Lvl} (hq : lv[j]? = some q) {va ka : Addr} (hv : U va = some (.tup [V.int (i : Int), V.ref q.1])) (hk : U ka = some (.tup ((kerR rs ((i : Int) :: q.2.2.2)).map V.int))) (h : kerR rs ((i : Int) :: q.2.2.2) ∉ es.map (·.1)) :
    SeaI H0 (upd (upd U d (.dT ((es ++ [(kerR rs ((i : Int) :: q.2.2.2), va, (i : Int) :: q.2.2.2)]).map kvOf))) f (.lst (((lvT fw).map fun t => V.ref t.1) ++ [V.ref ka]))) rs A d l f n k0 (es ++ [(kerR rs ((i : Int) :: q.2.2.2), va, (i : Int) :: q.2.2.2)]) lv (fw ++ [(ka, (kerR rs ((i : Int) :: q.2.2.2), va, (i : Int) :: q.2.2.2))]) i (j + 1) := by
  obtain ⟨e0, ee⟩ : ∃ e0 : Ent, e0 = (kerR rs ((i : Int) :: q.2.2.2), va, (i : Int) :: q.2.2.2) := ⟨_, rfl⟩
  rw [← ee]
  have ek : e0.1 = kerR rs ((i : Int) :: q.2.2.2) := by rw [ee]
  have ev : e0.2.1 = va := by rw [ee]
  have er : e0.2.2 = (i : Int) :: q.2.2.2 := by rw [ee]
  clear ee
  obtain ⟨hqe, hql⟩ := x.Lv.mem q (List.mem_of_getElem? hq)
  have elen : e0.2.2.length = n + 1 := by rw [er, List.length_cons, hql]
  have nf : d ≠ f := ne_of x.X.C.top x.Fw.L.top (fun z => nomatch z)
  have kt : ∀ (a : Addr) (ys : List V), U a = some (.tup ys) → upd (upd U d (.dT ((es ++ [e0]).map kvOf))) f (.lst (((lvT fw).map fun t => V.ref t.1) ++ [V.ref ka])) a = some (.tup ys) := fun a ys h => by
    rw [upd_ne (ne_of h x.Fw.L.top (fun z => nomatch z)), upd_ne (ne_of h x.X.C.top (fun z => nomatch z))]
    exact h
  have km : ∀ e ∈ es, e ∈ es ++ [e0] := fun e he => List.mem_append_left _ he
  have ke : e0 ∈ es ++ [e0] := List.mem_append_right _ List.mem_cons_self
  have hn : e0.1 ∉ es.map (·.1) := by rw [ek]; exact h
  refine ⟨⟨(((KP.same (S := fun _ => False) x.X.S).mut x.X.d0).mut x.f0).toSame, x.X.d0, ⟨?_, fun e he => ?_⟩, fun e he => ?_, ?_, fun r ha hl => (x.X.told r ha hl).mono km⟩, x.f0, x.ne, ⟨⟨?_, fun t ht => kt _ _ (x.Lv.L.row t ht)⟩, fun p hp => ⟨km _ (x.Lv.mem p hp).1, (x.Lv.mem p hp).2⟩, fun e he hl => ?_, x.Lv.asc⟩, ⟨⟨?_, fun t ht => ?_⟩, fun p hp => ?_, fun e he hl => ?_, ?_⟩, ?_, fun p hp => ?_, fun c j' q' hq' hc => ?_⟩
  · rw [upd_ne nf, upd_same]
  · rcases List.mem_append.mp he with w | w
    · exact (x.X.C.row e w).mono kt km
    · rw [List.mem_singleton.mp w]
      refine .inr ⟨(i : Int), q.1, q.2, km _ hqe, er, by rw [ev]; exact kt _ _ hv, ?_⟩
      exact kt _ _ (x.Lv.L.row (q.1, q.2.1) (List.mem_map.mpr ⟨q, List.mem_of_getElem? hq, rfl⟩))
  · rw [List.length_append]
    rcases List.mem_append.mp he with w | w
    · have := x.X.ker e w
      exact ⟨this.1, by omega, this.2.2⟩
    · rw [List.mem_singleton.mp w]
      have hq2 := x.X.ker q.2 hqe
      refine ⟨⟨?_, by rw [ek, er]⟩, ?_, by omega⟩
      · rw [er]
        exact fun z hz => (List.mem_cons.mp hz).elim (fun e => by rw [e]; omega) (hq2.1.1 z)
      · have := hq2.2.1
        rw [List.length_singleton]
        omega
  · rw [List.map_append]
    refine List.nodup_append.mpr ⟨x.X.nd, by simp, fun a h1 b h2 e => ?_⟩
    rw [List.mem_singleton.mp h2] at e
    exact hn ((show a = e0.1 from e) ▸ h1)
  · rw [upd_ne x.ne, upd_ne (ne_of x.Lv.L.top x.X.C.top (fun z => nomatch z))]
    exact x.Lv.L.top
  · rcases List.mem_append.mp he with w | w
    · exact x.Lv.all e w hl
    · rw [List.mem_singleton.mp w] at hl
      omega
  · rw [upd_same]
    unfold lvT
    rw [List.map_append, List.map_append]
    rfl
  · unfold lvT at ht
    rw [List.map_append] at ht
    rcases List.mem_append.mp ht with w | w
    · exact kt _ _ (x.Fw.L.row t w)
    · rw [List.mem_singleton.mp w]
      show _ = some (HO.tup (e0.1.map V.int))
      rw [ek]
      exact kt _ _ hk
  · rcases List.mem_append.mp hp with w | w
    · exact ⟨km _ (x.Fw.mem p w).1, (x.Fw.mem p w).2⟩
    · rw [List.mem_singleton.mp w]
      exact ⟨ke, elen⟩
  · rcases List.mem_append.mp he with w | w
    · obtain ⟨p, hp, q⟩ := x.Fw.all e w hl
      exact ⟨p, List.mem_append_left _ hp, q⟩
    · exact ⟨_, List.mem_append_right _ List.mem_cons_self, (List.mem_singleton.mp w).symm⟩
  · refine List.pairwise_append.mpr ⟨x.Fw.asc, List.pairwise_singleton _ _, fun a h1 b h2 => ?_⟩
    rw [List.mem_singleton.mp h2]
    show SL a.2.2.2 e0.2.2
    rw [er]
    exact x.ahead hq (x.Fw.mem a h1).1
  · have := x.cnt
    rw [List.length_append, List.length_append, List.length_singleton, List.length_singleton]
    omega
  · rcases List.mem_append.mp hp with w | w
    · obtain ⟨c, j', q, h1, h2, h3⟩ := x.src p w
      exact ⟨c, j', q, h1, h2, by omega⟩
    · rw [List.mem_singleton.mp w]
      exact ⟨i, j, q, hq, er, by omega⟩
  · by_cases w : c < i ∨ c = i ∧ j' < j
    · exact (x.done c j' q' hq' w).mono km
    · obtain ⟨rfl, rfl⟩ : c = i ∧ j' = j := by omega
      rw [hq] at hq'
      obtain rfl := Option.some.inj hq'
      exact ⟨e0, ke, ek, .inl er⟩
/-- what was found is the first of the shortest -/
theorem SeaS.least (x : SeaS H0 U rs A d es n n) {e : Ent} (he : e ∈ es) : Least rs A e.1 e.2.2 := by
  have h := x.ker e he
  refine ⟨h.1.1, h.1.2.symm, fun r' ha hk => ?_⟩
  by_cases w : r'.length ≤ n
  · obtain ⟨e', he', e1, e2⟩ := x.told r' ha w
    have := ent_one x.nd he' he (by rw [e1, hk])
    rw [← this]
    exact e2
  · exact .inr (.inl (by omega))
/-- where a level is empty all is found -/
theorem SeaS.all (R : Rs A rs) (x : SeaS H0 U rs A d es n n) (hn : ∀ e ∈ es, e.2.2.length ≠ n) : ∀ r, InA A r → kerR rs r ∈ es.map (·.1) := by
  have : ∀ r, InA A r → Told1 rs es r := by
    intro r
    induction r with
    | nil => exact fun ha => x.told [] ha (Nat.zero_le _)
    | cons c r ih =>
      intro ha
      have ⟨c0, c1⟩ := ha c List.mem_cons_self
      obtain ⟨e, he, e1, e2⟩ := ih fun z hz => ha z (List.mem_cons_of_mem _ hz)
      have h := x.ker e he
      have := hn e he
      obtain ⟨e', he', e3, e4⟩ := x.told (c :: e.2.2) (fun z hz => (List.mem_cons.mp hz).elim (fun q => by rw [q]; exact ⟨c0, c1⟩) (h.1.1 z)) (by rw [List.length_cons]; omega)
      exact ⟨e', he', by rw [e3, ← ker_pull R c0 c1, ← ker_pull R c0 c1, ← e1, h.1.2], e4.trans e2.cons⟩
  intro r ha
  obtain ⟨e, he, e1, _⟩ := this r ha
  exact List.mem_map.mpr ⟨e, he, e1⟩
end
end Lk

set_option Elab.async false
set_option linter.all false
set_option maxRecDepth 100000
set_option maxHeartbeats 4000000
namespace Lk
open PySem L2
abbrev s_is_tuple_below : Stmt := top 10
abbrev N_is_tuple_below : List Str := ["value", "limit"]
abbrev P_is_tuple_below : List Str := ["value", "limit"]
theorem sc_is_tuple_below : FnScope N_is_tuple_below P_is_tuple_below (defScope s_is_tuple_below) := ⟨rfl, rfl, rfl, by decide +kernel, rfl, by decide +kernel, by decide +kernel⟩
abbrev s_is_state_tuple : Stmt := top 15
abbrev N_is_state_tuple : List Str := ["machine", "value"]
abbrev P_is_state_tuple : List Str := ["machine", "value"]
theorem sc_is_state_tuple : FnScope N_is_state_tuple P_is_state_tuple (defScope s_is_state_tuple) := ⟨rfl, rfl, rfl, by decide +kernel, rfl, by decide +kernel, by decide +kernel⟩
abbrev s_is_division : Stmt := top 27
abbrev N_is_division : List Str := ["machine", "value"]
abbrev P_is_division : List Str := ["machine", "value"]
theorem sc_is_division : FnScope N_is_division P_is_division (defScope s_is_division) := ⟨rfl, rfl, rfl, by decide +kernel, rfl, by decide +kernel, by decide +kernel⟩
def isT : PyData → Bool
  | .tuple _ => true
  | _ => false
def tbD (n : Int) (d : PyData) : Bool := isT d && (itemsD d).all (isB n)
def stD (n : Int) (d : PyData) : Bool := tbD n d && decide (((itemsD d).length : Int) = n)
def spTB : Sp := fun vs H Q _ => ∃ (x : V) (d : PyData) (n : Int), vs = [x, .int n] ∧ Dv H x d ∧ (itemsD d).length ≤ 100000 ∧ ∀ H', Same H H' → Q (.bl (tbD n d)) H'
def spST (CM : Addr) : Sp := fun vs H Q _ => ∃ (m : Addr) (x : V) (d : PyData) (A : Int) (us : List (Addr × List Int)), vs = [.ref m, x] ∧ MachAt CM H m A us ∧ Dv H x d ∧ (itemsD d).length ≤ 100000 ∧ ∀ H', Same H H' → Q (.bl (stD (us.length : Int) d)) H'
def IsDiv (n : Nat) (d : PyData) : Prop := ∃ ns : List Int, d = .tuple (ns.map PyData.int) ∧ ns.length = n ∧ kerG ns = ns
def spDiv (CM : Addr) : Sp := fun vs H Q _ => ∃ (m : Addr) (x : V) (d : PyData) (A : Int) (us : List (Addr × List Int)), vs = [.ref m, x] ∧ MachAt CM H m A us ∧ Dv H x d ∧ (itemsD d).length ≤ 1000 ∧ ∀ H' b, Same H H' → (b = true ↔ IsDiv us.length d) → Q (.bl b) H'
theorem canon_range {ns : List Int} (c : kerG ns = ns) {z : Int} (h : z ∈ ns) : 0 ≤ z ∧ z < (ns.length : Int) := by
  obtain ⟨i, hi⟩ := List.mem_iff_getElem?.mp h
  obtain ⟨h1, h2, _⟩ := canon_at c hi
  have := (List.getElem?_eq_some_iff.mp hi).1
  omega
theorem stD_ints {n : Int} {d : PyData} (h : stD n d = true) : d = .tuple ((intsD d).map PyData.int) ∧ ((intsD d).length : Int) = n ∧ ∀ z ∈ intsD d, 0 ≤ z ∧ z < n := by
  unfold stD tbD at h
  rw [Bool.and_eq_true, Bool.and_eq_true] at h
  obtain ⟨⟨h1, h2⟩, h3⟩ := h
  have h3 := of_decide_eq_true h3
  cases d with
  | tuple ds =>
    have h2 : ds.all (isB n) = true := h2
    have h3 : ((ds.length : Nat) : Int) = n := h3
    refine ⟨?_, ?_, inB h2⟩
    · show PyData.tuple ds = .tuple ((ds.map intD).map PyData.int)
      congr 1
      rw [List.map_map]
      have : ∀ d ∈ ds, (PyData.int ∘ intD) d = d := fun d hd => by
        have hb := List.all_eq_true.mp h2 d hd
        cases d with
        | int i => rfl
        | none => cases hb
        | bool _ => cases hb
        | str _ => cases hb
        | list _ => cases hb
        | tuple _ => cases hb
        | dict _ => cases hb
      rw [List.map_congr_left this]
      simp
    · show (((ds.map intD).length : Nat) : Int) = n
      rw [List.length_map]
      exact h3
  | none => cases h1
  | bool _ => cases h1
  | int _ => cases h1
  | str _ => cases h1
  | list _ => cases h1
  | dict _ => cases h1
theorem stD_of {n : Nat} {ns : List Int} (hl : ns.length = n) (h : ∀ z ∈ ns, 0 ≤ z ∧ z < (n : Int)) : stD (n : Int) (.tuple (ns.map PyData.int)) = true := by
  show ((true && (ns.map PyData.int).all (isB (n : Int))) && decide ((((ns.map PyData.int).length : Nat) : Int) = (n : Int))) = true
  rw [isB_ints h, List.length_map, hl]
  simp
theorem intsD_tuple (ns : List Int) : intsD (.tuple (ns.map PyData.int)) = ns := intD_ints ns
theorem shaped_rowP (bs : List Int) : SeqAt.shaped (.tuple (bs.map PyData.int)) = true := by
  have h1 : PyData.canLay0 (.tuple (bs.map PyData.int)) = true := canLay_ints bs
  have h2 : PyData.depth (.tuple (bs.map PyData.int)) = PyData.depthAll (bs.map PyData.int) + 1 := rfl
  have h3 := depth_ints bs
  unfold SeqAt.shaped
  rw [h1, Bool.true_and]
  exact decide_eq_true (by omega)
section
variable {P : Program} {w : World} {K : PySem.W.Frag} {mg : Str → Option Value} {base : Heap} {CM : Addr}
theorem ok_tb {f fr : Addr} {fd fdr : FuncData} (A0 : Df K mg "is_tuple_below" s_is_tuple_below f fd P_is_tuple_below) (d_are_below : Df K mg "are_below" s_are_below fr fdr P_are_below) (G_are_below : FnOk P w K mg base CX0 4 fr fdr P_are_below spAre) (T : Txt mg) : FnOk P w K mg base CX0 5 f fd P_is_tuple_below spTB := by
  refine A0.F.ok sc_is_tuple_below (fun vs H Q E h => ?_) (fun cdv A outer s H vs Q E hr h => ?_)
  · obtain ⟨x, d, n, rfl, _⟩ := h
    rfl
  · obtain ⟨x, d, n, rfl, D, hz, k⟩ := h
    refine ⟨_, (pss_one (ps_ret (pe_and (pe_callB call_isi (by rfl) T.isinstance PyProof.Rows.boot_isinstance (pa_cons (pv 0) (pa_cons (pe_bltn (v := .ty "tuple") (by rfl) T.tuple (by decide +kernel) rfl) pa_nil))) (pe_one (pe_call G_are_below (hr.mono (by decide)) rfl d_are_below.g d_are_below.F.kp d_are_below.b .nil pass0 (pa_cons (pv 0) (pa_cons (pv 1) pa_nil))))))), ?_⟩
    have no : PySem.W.kitOne K (.type (tyD d)) (.type "tuple") = some false → isT d = false → tRet (tAndV (tCB (rIsi K) (tCons (tVar 0) (tCons (tC (.ty "tuple")) tNil))) (tCall spAre [] E0 (tCons (tVar 0) (tCons (tVar 1) tNil)))) { nx := fun _ H' => Q .non H', rt := Q } [some x, some (.int n)] H := by
      intro h1 h2
      refine ⟨_, rfl, x, _, _, _, false, rfl, .ty _, D.ty, h1, false, rfl, iteF ?_⟩
      have := k H (Same.refl _)
      unfold tbD at this
      rw [h2] at this
      exact this
    cases d with
    | none => exact no (kit_ty (a := "NoneType") (by decide +kernel)) rfl
    | bool b => exact no (kit_ty (a := "bool") (by decide +kernel)) rfl
    | int i => exact no (kit_ty (a := "int") (by decide +kernel)) rfl
    | str x => exact no (kit_ty (a := "str") (by decide +kernel)) rfl
    | list x => exact no (kit_ty (a := "list") (by decide +kernel)) rfl
    | dict x => exact no (kit_ty (a := "dict") (by decide +kernel)) rfl
    | tuple ds =>
      refine ⟨_, rfl, x, _, _, _, true, rfl, .ty _, D.ty, kit_ty (a := "tuple") (by decide +kernel), true, rfl, iteT ?_⟩
      exact ⟨_, rfl, _, rfl, x, _, n, rfl, D, rfl, hz, fun H' S' => k H' S'⟩
theorem ok_st {f ft : Addr} {fd fdt : FuncData} (A0 : Df K mg "is_state_tuple" s_is_state_tuple f fd P_is_state_tuple) (d_is_tuple_below : Df K mg "is_tuple_below" s_is_tuple_below ft fdt P_is_tuple_below) (G_is_tuple_below : FnOk P w K mg base CX0 5 ft fdt P_is_tuple_below spTB) (T : Txt mg) (TC : TxC K CM) : FnOk P w K mg base CX0 6 f fd P_is_state_tuple (spST CM) := by
  refine A0.F.ok sc_is_state_tuple (fun vs H Q E h => ?_) (fun cdv Ar outer s H vs Q E hr h => ?_)
  · obtain ⟨m, x, d, A, us, rfl, _⟩ := h
    rfl
  · obtain ⟨m, x, d, A, us, rfl, M, D, hz, k⟩ := h
    refine ⟨_, (pss_one (ps_ret (pe_and (pe_call G_is_tuple_below (hr.mono (by decide)) rfl d_is_tuple_below.g d_is_tuple_below.F.kp d_is_tuple_below.b .nil pass0 (pa_cons (pv 1) (pa_cons (pe_fld (pv 0) rfl) pa_nil))) (pe_one (pe_cmpR op_eq (pe_callB call_len_seq (by rfl) T.len PySem.boot_len (pa_cons (pv 1) pa_nil)) (pe_fld (pv 0) rfl) (nomark _)))))), ?_⟩
    obtain ⟨dx, t, h1, h2, h3⟩ := M
    refine ⟨_, rfl, _, rfl, m, CM, dx, _, _, rfl, h1, TC.cl, TC.n2, fld_n _ _ _, x, d, _, rfl, D, hz, fun H1 S1 => ⟨tbD (us.length : Int) d, rfl, ?_⟩⟩
    cases hb : tbD (us.length : Int) d with
    | false =>
      refine iteF ?_
      have := k H1 S1
      unfold stD at this
      rw [hb] at this
      exact this
    | true =>
      have ht : isT d = true := by
        unfold tbD at hb
        rw [Bool.and_eq_true] at hb
        exact hb.1
      cases D with
      | @tup a xs ds ha hx =>
        refine iteT ⟨_, rfl, a, xs, rfl, .inr (SqT.of (S1 _ _ ha)), _, rfl, m, CM, dx, _, _, rfl, S1 _ _ h1, TC.cl, TC.n2, fld_n _ _ _, rfl, ?_⟩
        have e : decide (V.int ((xs.length : Nat) : Int) = V.int (us.length : Int)) = decide (((ds.length : Nat) : Int) = (us.length : Int)) := by
          rw [hx.len]
          by_cases q : ((ds.length : Nat) : Int) = (us.length : Int)
          · rw [decide_eq_true q, q]
            exact decide_eq_true rfl
          · rw [decide_eq_false q]
            exact decide_eq_false fun z => q (by injection z)
        show Q (.bl (decide (V.int ((xs.length : Nat) : Int) = V.int (us.length : Int)))) H1
        rw [e]
        have := k H1 S1
        unfold stD at this
        rw [hb, Bool.true_and] at this
        exact this
      | non => cases ht
      | bl b => cases ht
      | int i => cases ht
      | str z => cases ht
      | lst _ _ => cases ht
      | dct _ => cases ht
theorem ok_div {f fs fk : Addr} {fd fds fdk : FuncData} (A0 : Df K mg "is_division" s_is_division f fd P_is_division) (d_is_state_tuple : Df K mg "is_state_tuple" s_is_state_tuple fs fds P_is_state_tuple) (G_is_state_tuple : FnOk P w K mg base CX0 6 fs fds P_is_state_tuple (spST CM)) (d_kernel_of : Df K mg "kernel_of" s_kernel_of fk fdk P_kernel_of) (G_kernel_of : FnOk P w K mg base CX0 1 fk fdk P_kernel_of (spKOf (SqT K))) : FnOk P w K mg base CX0 7 f fd P_is_division (spDiv CM) := by
  refine A0.F.ok sc_is_division (fun vs H Q E h => ?_) (fun cdv Ar outer s H vs Q E hr h => ?_)
  · obtain ⟨m, x, d, A, us, rfl, _⟩ := h
    rfl
  · obtain ⟨m, x, d, A, us, rfl, M, D, hz, k⟩ := h
    have hu : Ar.units + 3 + 64 < cLine := by have := hr.un; simp only [Around.deeper] at this; omega
    refine ⟨_, (pss_cons (ps_if (pt_not (pt_val (pe_call G_is_state_tuple (hr.mono (by decide)) rfl d_is_state_tuple.g d_is_state_tuple.F.kp d_is_state_tuple.b .nil pass0 (pa_cons (pv 0) (pa_cons (pv 1) pa_nil))))) (pss_one (ps_ret pe_bl)) pss_nil)
    (pss_one (ps_ret (pe_cmpR (op_eqD hu) (pv 1) (pe_call G_kernel_of (hr.mono (by decide)) rfl d_kernel_of.g d_kernel_of.F.kp d_kernel_of.b .nil pass0 (pa_cons (pv 1) pa_nil)) (nomark _))))), ?_⟩
    refine ⟨_, rfl, _, rfl, m, x, d, A, us, rfl, M, D, by omega, fun H1 S1 => ⟨stD (us.length : Int) d, rfl, ?_⟩⟩
    cases hb : stD (us.length : Int) d with
    | false =>
      refine iteT (k H1 false S1 ⟨fun e => (by cases e), ?_⟩)
      rintro ⟨ns, rfl, hl, c⟩
      rw [stD_of hl (fun z hzm => by rw [← hl]; exact canon_range c hzm)] at hb
      cases hb
    | true =>
      obtain ⟨e1, e2, e3⟩ := stD_ints hb
      obtain ⟨ns, en⟩ : ∃ ns, ns = intsD d := ⟨_, rfl⟩
      rw [← en] at e1 e2 e3
      subst e1
      cases D with
      | @tup a xs ds ha hx =>
        have ex : xs = ns.map V.int := by
          have := hx.ints (n := (us.length : Int)) (isB_ints e3)
          rw [this, intD_ints]
        subst ex
        refine iteF ⟨_, rfl, _, rfl, a, ns, rfl, SqT.of (S1 _ _ ha), by simp only [itemsD, List.length_map] at hz; exact hz, fun H2 q S2 hq hq2 => ?_⟩
        refine ⟨.tuple (ns.map PyData.int), .tuple ((kerL ns).map PyData.int), .tup (SqT.of (S2 _ _ (S1 _ _ ha))) (dpAll_ints _), .tup (SqT.of hq2) (dpAll_ints _), ?_, ?_, ?_⟩
        · exact shaped_rowP ns
        · exact shaped_rowP _
        · show Q (.bl (PyData.eqvAll (ns.map PyData.int) ((kerL ns).map PyData.int))) H2
          rw [eqv_ints]
          refine k H2 _ (S1.trans S2) ?_
          rw [decide_eq_true_iff]
          constructor
          · exact fun e => ⟨ns, rfl, by omega, e.symm⟩
          · rintro ⟨ms, e, _, c⟩
            have e : ns.map PyData.int = ms.map PyData.int := by injection e
            have e : ns = ms := by
              have := congrArg (List.map intD) e
              rw [intD_ints, intD_ints] at this
              exact this
            rw [e]
            exact c.symm
end
end Lk

set_option Elab.async false
set_option linter.all false
set_option maxRecDepth 100000
set_option maxHeartbeats 4000000
namespace Lk
open PySem L2
abbrev s_is_within : Stmt := top 30
abbrev N_is_within : List Str := ["one", "other", "state", "least"]
abbrev P_is_within : List Str := ["one", "other"]
theorem sc_is_within : FnScope N_is_within P_is_within (defScope s_is_within) := ⟨rfl, rfl, rfl, by decide +kernel, rfl, by decide +kernel, by decide +kernel⟩
abbrev s_law_within : Stmt := top 45
abbrev N_law_within : List Str := ["one", "other", "s", "t"]
abbrev P_law_within : List Str := ["one", "other"]
theorem sc_law_within : FnScope N_law_within P_law_within (defScope s_law_within) := ⟨rfl, rfl, rfl, by decide +kernel, rfl, by decide +kernel, by decide +kernel⟩
/-- what the first kernel brings together the second one does, too -/
def Within (one other : List Int) : Prop := ∀ i, i < one.length → other.getD i 0 = other.getD (one.getD i 0).toNat 0
theorem getD_item {xs : List Int} {i : Nat} (h : i < xs.length) : (xs.map V.int)[i]? = some (V.int (xs.getD i 0)) := by
  rw [List.getElem?_map, List.getElem?_eq_getElem h, getD_of (List.getElem?_eq_getElem h)] <;> rfl
theorem within_pairs {one other : List Int} (c : kerG one = one) : Within one other ↔ ∀ s t, t < s → s < one.length → one.getD s 0 = one.getD t 0 → other.getD s 0 = other.getD t 0 := by
  constructor
  · intro h s t ts sl e
    rw [h s sl, h t (by omega), e]
  · intro h i hi
    have g := List.getElem?_eq_getElem hi
    obtain ⟨c0, c1, c2⟩ := canon_at c g
    rw [getD_of g]
    by_cases q : (one[i]).toNat = i
    · rw [q]
    · refine h i _ (by omega) hi ?_
      rw [getD_of g, getD_of c2]
def spWithin : Sp := fun vs H Q _ => ∃ (a b : Addr) (one other : List Int), vs = [.ref a, .ref b] ∧ H a = some (.tup (one.map V.int)) ∧ H b = some (.tup (other.map V.int)) ∧ one.length = other.length ∧ one.length ≤ 1000 ∧ (∀ z ∈ one, 0 ≤ z ∧ z < (one.length : Int)) ∧ ∀ H' r, Same H H' → (r = true ↔ Within one other) → Q (.bl r) H'
def spLWithin : Sp := fun vs H Q _ => ∃ (a b : Addr) (one other : List Int), vs = [.ref a, .ref b] ∧ H a = some (.tup (one.map V.int)) ∧ H b = some (.tup (other.map V.int)) ∧ one.length = other.length ∧ one.length ≤ 1000 ∧ kerG one = one ∧ ∀ r, (r = true ↔ Within one other) → Q (.bl r) H
section
variable {P : Program} {w : World} {K : PySem.W.Frag} {mg : Str → Option Value} {base : Heap}
theorem fm_some' (f : Nat → V) (n : Nat) : (List.range n).filterMap (fun i => some (f i)) = (List.range n).map f := by
  induction n with
  | zero => rfl
  | succ n ih => rw [range_fm, ih, List.range_succ, List.map_append] <;> rfl
theorem ok_within {f : Addr} {fd : FuncData} (A0 : Df K mg "is_within" s_is_within f fd P_is_within) (T : Txt mg) : FnOk P w K mg base CX0 1 f fd P_is_within spWithin := by
  refine A0.F.ok sc_is_within (fun vs H Q E h => ?_) (fun cdv Ar outer s H vs Q E hr h => ?_)
  · obtain ⟨a, b, one, other, rfl, _⟩ := h
    rfl
  · obtain ⟨a, b, one, other, rfl, ha, hb, hl, hz, hn, k⟩ := h
    refine ⟨_, (pss_one (ps_ret (pe_callB (cr_all rfl) (by rfl) T.all PyProof.Rows.boot_all (pa_cons (pe_lc (own := [("state", 2), ("least", 3)]) (g := gTup K 2 (gCons (gName 2) (gCons (gName 3) gNil))) (tt := tYes) (te := tOp rEq (tOp (rIxT K) (tVar 1) (tVar 2)) (tOp (rIxT K) (tVar 1) (tVar 3))) rfl sc_is_within.nd (pi_enumT (by rfl) T.enumerate (pa_cons (pv 0) pa_nil)) (blkOk_by (N := N_is_within) (sc := defScope s_is_within) (by decide +kernel)) (fun _ _ _ _ _ => (pg_tup rfl (pgs_cons (pg_name (i := 2) sc_is_within.nd rfl (Or.inl rfl)) (pgs_cons (pg_name (i := 3) sc_is_within.nd rfl (Or.inl rfl)) pgs_nil)))) (fun _ _ _ _ _ => pts_nil) (fun _ _ _ _ _ => (pe_cmpR op_eq (pe_ix ix_tup (pv 1) (pv 2) (fun _ _ => rfl)) (pe_ix ix_tup (pv 1) (pv 3) (fun _ _ => rfl)) (nomark _)))) pa_nil)))), ?_⟩
    refine ⟨_, rfl, a, _, rfl, SqT.of ha, fun D hD => ?_⟩
    have wk := walk_enumT (K := K) (a := a) (xs := one.map V.int)
    rw [List.length_map] at wk
    refine lcW2 _ _ wk (fun i => some (.bl (decide (V.int (other.getD i 0) = V.int (other.getD (one.getD i 0).toNat 0))))) hD (by omega) (fun H' S' => SqT.of (S' _ _ ha)) ?_ ?_
    · intro i x y H4 hi S4 e1 e2 N Q' _ kQ
      obtain rfl := Option.some.inj e1
      rw [getD_item hi] at e2
      obtain rfl := Option.some.inj e2
      have hm := hn (one.getD i 0) (by rw [List.getD_eq_getElem?_getD, List.getElem?_eq_getElem hi]; exact List.getElem_mem _)
      refine iteT (B := N H4) ⟨_, rfl, _, rfl, b, _, _, _, rfl, rfl, SqT.of (S4 _ _ hb), atI_int (by omega) (by rw [Int.toNat_natCast]; exact getD_item (by omega)), _, rfl, _, rfl, b, _, _, _, rfl, rfl, SqT.of (S4 _ _ hb), atI_int hm.1 (getD_item (by omega)), ?_⟩
      exact ⟨rfl, kQ _ rfl H4 (Same.refl _)⟩
    · intro H5 S5 e5
      rw [fm_some'] at e5
      refine ⟨D, (List.range one.length).map fun i : Nat => decide (V.int (other.getD i 0) = V.int (other.getD (one.getD i 0).toNat 0)), rfl, SqL.of (by rw [e5, List.map_map]; rfl), k H5 _ S5 ?_⟩
      rw [List.all_eq_true]
      constructor
      · intro h i hi
        have := h _ (List.mem_map.mpr ⟨i, List.mem_range.mpr hi, rfl⟩)
        have := of_decide_eq_true this
        injection this
      · rintro h b hb
        obtain ⟨i, hi, rfl⟩ := List.mem_map.mp hb
        have := h i (List.mem_range.mp hi)
        exact decide_eq_true (by rw [this])
theorem ok_lwithin {f : Addr} {fd : FuncData} (A0 : Df K mg "_law_within" s_law_within f fd P_law_within) (T : Txt mg) : FnOk P w K mg base CX0 1 f fd P_law_within spLWithin := by
  refine A0.F.ok sc_law_within (fun vs H Q E h => ?_) (fun cdv Ar outer s H vs Q E hr h => ?_)
  · obtain ⟨a, b, one, other, rfl, _⟩ := h
    rfl
  · obtain ⟨a, b, one, other, rfl, ha, hb, hl, hz, hc, k⟩ := h
    refine ⟨_, (pss_cons (ps_for PassesOwn.never rfl (pi_range1 rfl T.range (pa_cons (pe_callB call_len_seq (by rfl) T.len PySem.boot_len (pa_cons (pv 0) pa_nil)) pa_nil)) (pg_name (i := 2) sc_law_within.nd rfl (Or.inl rfl))
      (pss_one (ps_for PassesOwn.never rfl (pi_range1 rfl T.range (pa_cons (pv 2) pa_nil)) (pg_name (i := 3) sc_law_within.nd rfl (Or.inl rfl))
        (pss_one (ps_if (PW.pt (pw_and (pt_cmpR op_eq (pe_ix ix_tup (pv 0) (pv 2) (fun _ _ => rfl)) (pe_ix ix_tup (pv 0) (pv 3) (fun _ _ => rfl)) (nomark _)) (pw_and1 (pt_cmpR op_ne (pe_ix ix_tup (pv 1) (pv 2) (fun _ _ => rfl)) (pe_ix ix_tup (pv 1) (pv 3) (fun _ _ => rfl)) (nomark _))))) (pss_one (ps_ret pe_bl)) pss_nil)))))
    (pss_one (ps_ret pe_bl))), ?_⟩
    have wp := within_pairs (other := other) hc
    refine ⟨_, rfl, a, _, rfl, .inr (SqT.of ha), one.length, by rw [List.length_map], by omega, by omega, ?_⟩
    refine for_range (lo := 0) (n := one.length) (fun i σ U => ∃ (v2 v3 : Option V), σ = [some (.ref a), some (.ref b), v2, v3] ∧ U = H ∧ ∀ s t, t < s → s < i → one.getD s 0 = one.getD t 0 → other.getD s 0 = other.getD t 0) ⟨none, none, rfl, rfl, fun s t _ h => absurd h (Nat.not_lt_zero s)⟩ ?_ ?_
    · rintro i σ U hi ⟨v2, v3, rfl, rfl, hp⟩
      have z1 : (0 : Int) + (i : Int) = (i : Int) := by omega
      rw [z1]
      clear z1
      refine ⟨_, rfl, i, rfl, by omega, by omega, ?_⟩
      refine for_range (lo := 0) (n := i) (fun j σ U' => ∃ (v3 : Option V), σ = [some (.ref a), some (.ref b), some (.int (i : Int)), v3] ∧ U' = U ∧ ∀ t, t < j → one.getD i 0 = one.getD t 0 → other.getD i 0 = other.getD t 0) ⟨v3, rfl, rfl, fun t h => absurd h (Nat.not_lt_zero t)⟩ ?_ ?_
      · rintro j σ U' hj ⟨v3, rfl, rfl, hq⟩
        have z1 : (0 : Int) + (j : Int) = (j : Int) := by omega
        rw [z1]
        clear z1
        have g : ∀ {xs : List Int} {i : Nat}, i < xs.length → (xs.map V.int)[((i : Nat) : Int).toNat]? = some (V.int (xs.getD i 0)) := fun h => by
          rw [Int.toNat_natCast]
          exact getD_item h
        refine ⟨_, rfl, _, rfl, a, _, _, _, rfl, rfl, SqT.of ha, atI_int (by omega) (g hi), _, rfl, _, rfl, a, _, _, _, rfl, rfl, SqT.of ha, atI_int (by omega) (g (by omega)), rfl, _, rfl, ?_⟩
        by_cases e : one.getD i 0 = one.getD j 0
        · rw [show decide (V.int (one.getD i 0) = V.int (one.getD j 0)) = true from decide_eq_true (by rw [e])]
          refine iteT ⟨_, rfl, _, rfl, b, _, _, _, rfl, rfl, SqT.of hb, atI_int (by omega) (g (by omega)), _, rfl, _, rfl, b, _, _, _, rfl, rfl, SqT.of hb, atI_int (by omega) (g (by omega)), rfl, _, rfl, ?_⟩
          by_cases e2 : other.getD i 0 = other.getD j 0
          · rw [show decide (V.int (other.getD i 0) = V.int (other.getD j 0)) = true from decide_eq_true (by rw [e2])]
            refine iteF ⟨_, rfl, rfl, fun t ht et => ?_⟩
            by_cases q : t = j
            · rw [q]
              exact e2
            · exact hq t (by omega) et
          · rw [decide_eq_false (show ¬ V.int (other.getD i 0) = V.int (other.getD j 0) from fun z => e2 (by injection z))]
            refine iteT (k false ⟨fun z => (by cases z), fun z => absurd (wp.mp z i j hj hi e) e2⟩)
        · rw [decide_eq_false (show ¬ V.int (one.getD i 0) = V.int (one.getD j 0) from fun z => e (by injection z))]
          refine iteF (iteF ⟨_, rfl, rfl, fun t ht et => ?_⟩)
          by_cases q : t = j
          · rw [q] at et
            exact absurd et e
          · exact hq t (by omega) et
      · rintro σ U' ⟨v3, rfl, rfl, hq⟩
        refine ⟨_, _, rfl, rfl, fun s t ts si => ?_⟩
        by_cases q : s = i
        · subst q
          exact hq t ts
        · exact hp s t ts (by omega)
    · rintro σ U ⟨v2, v3, rfl, rfl, hp⟩
      exact k true ⟨fun _ => wp.mpr hp, fun _ => rfl⟩
end
end Lk

set_option Elab.async false
set_option linter.all false
set_option maxRecDepth 100000
set_option maxHeartbeats 4000000
namespace Lk
open PySem L2
abbrev s_kernel_ahead : Stmt := top 24
abbrev N_kernel_ahead : List Str := ["done", "behind", "state"]
abbrev P_kernel_ahead : List Str := ["done", "behind"]
theorem sc_kernel_ahead : FnScope N_kernel_ahead P_kernel_ahead (defScope s_kernel_ahead) := ⟨rfl, rfl, rfl, by decide +kernel, rfl, by decide +kernel, by decide +kernel⟩
abbrev s_kernel : Stmt := top 22
abbrev N_kernel : List Str := ["machine", "row"]
abbrev P_kernel : List Str := ["machine", "row"]
theorem sc_kernel : FnScope N_kernel P_kernel (defScope s_kernel) := ⟨rfl, rfl, rfl, by decide +kernel, rfl, by decide +kernel, by decide +kernel⟩
/-- the labels that stand where a change leads -/
def atL (done behind : List Int) : List Int := done.map fun s => behind.getD s.toNat 0
def aheadL (done behind : List Int) : List Int := kerL (atL done behind)
def fAt (behind : List Int) : V → V
  | .int s => .int (behind.getD s.toNat 0)
  | x => x
def spAhead : Sp := fun vs H Q _ => ∃ (a b : Addr) (f g : List Int), vs = [.ref a, .ref b] ∧ H a = some (.tup (f.map V.int)) ∧ H b = some (.tup (g.map V.int)) ∧ f.length ≤ 1000 ∧ (∀ z ∈ f, 0 ≤ z ∧ z < (g.length : Int)) ∧
  ∀ H' t, Same H H' → H t = none → H' t = some (.tup ((aheadL f g).map V.int)) → Q (.ref t) H'
def spKernel (CM CW : Addr) : Sp := fun vs H Q E => ∃ (m : Addr) (y : V) (dy : PyData) (A : Int) (us : List (Addr × List Int)), vs = [.ref m, y] ∧ MachAt CM H m A us ∧ MOk A us ∧ Dv H y dy ∧ (itemsD dy).length ≤ 1000 ∧
  match rowRes A dy with
  | some k => ∀ H' q, Same H H' → H' q = none → E (.ref CW) (some q) (upd H' q (.xd [(("at" : Str), .int (k : Int))]))
  | none => ∀ H' t, Same H H' → H' t = some (.tup ((kerL (effs (rsOf us) (intsD dy))).map V.int)) → Q (.ref t) H'
section
variable {P : Program} {w : World} {K : PySem.W.Frag} {mg : Str → Option Value} {base : Heap} {CM CW : Addr}
theorem ok_ahead {f fk : Addr} {fd fdk : FuncData} (A0 : Df K mg "kernel_ahead" s_kernel_ahead f fd P_kernel_ahead) (d_kernel_of : Df K mg "kernel_of" s_kernel_of fk fdk P_kernel_of) (T : Txt mg) : FnOk P w K mg base CX0 2 f fd P_kernel_ahead spAhead := by
  have G_kernel_of : FnOk P w K mg base CX0 1 fk fdk P_kernel_of (spKOf (SqL K)) := ok_kofL d_kernel_of T
  refine A0.F.ok sc_kernel_ahead (fun vs H Q E h => ?_) (fun cdv A outer s H vs Q E hr h => ?_)
  · obtain ⟨a, b, f, g, rfl, _⟩ := h
    rfl
  · obtain ⟨a, b, f, g, rfl, ha, hb, hz, hg, k⟩ := h
    refine ⟨_, (pss_one (ps_ret (pe_call G_kernel_of (hr.mono (by decide)) rfl d_kernel_of.g d_kernel_of.F.kp d_kernel_of.b .nil pass0 (pa_cons (pe_lc (own := [("state", 2)]) (g := gName 2) (tt := tYes) (te := tOp (rIxT K) (tVar 1) (tVar 2)) rfl sc_kernel_ahead.nd (pi_tup (pv 0)) (blkOk_by (N := N_kernel_ahead) (sc := defScope s_kernel_ahead) (by decide +kernel)) (fun _ _ _ _ _ => (pg_name (i := 2) sc_kernel_ahead.nd rfl (Or.inl rfl))) (fun _ _ _ _ _ => pts_nil) (fun _ _ _ _ _ => (pe_ix ix_tup (pv 1) (pv 2) (fun _ _ => rfl)))) pa_nil)))), ?_⟩
    refine ⟨_, rfl, a, rfl, ⟨_, SqT.of ha⟩, fun D hD => ?_⟩
    refine lcPT (K := K) (xs := f.map V.int) (fAt g) hD (by rw [List.length_map]; omega) (SqT.of ha) (fun x hx H1 S1 Q1 k1 => ?_) (fun H1 e1 S1 => ?_)
    · obtain ⟨z, hz', rfl⟩ := List.mem_map.mp hx
      obtain ⟨z0, z1⟩ := hg z hz'
      refine ⟨_, rfl, _, rfl, b, _, z, V.int (g.getD z.toNat 0), rfl, rfl, SqT.of (S1 _ _ hb), atI_int z0 ?_, k1 _ (Same.refl _)⟩
      rw [List.getElem?_map, item_of z0 (by omega) 0]
      rfl
    · have e2 : (f.map V.int).map (fAt g) = (atL f g).map V.int := by
        unfold atL
        rw [List.map_map, List.map_map]
        rfl
      rw [e2] at e1
      refine ⟨D, _, rfl, SqL.of e1, by unfold atL; rw [List.length_map]; omega, fun H2 q S2 hq e3 => k H2 q (S1.trans S2) ?_ e3⟩
      exact KP.free (S := fun _ => False) (KP.same S1) (fun x => x.elim) hq
theorem ok_kernel {f fk fe fW : Addr} {fd fdk fde : FuncData} (A0 : Df K mg "kernel" s_kernel f fd P_kernel) (d_kernel_of : Df K mg "kernel_of" s_kernel_of fk fdk P_kernel_of) (d_effect : Df K mg "effect" s_effect fe fde P_effect) (G_effect : FnOk P w K mg base (L2.CX P w) 7 fe fde P_effect (spEff CM CW)) (T : Txt mg) : FnOk P w K mg base (L2.CX P w) 8 f fd P_kernel (spKernel CM CW) := by
  have G_kernel_of : FnOk P w K mg base CX0 1 fk fdk P_kernel_of (spKOf (SqT K)) := ok_kof d_kernel_of T
  refine A0.F.okX sc_kernel (fun vs H Q E h => ?_) (fun cdv Ar outer s H vs Q E hr h => ?_)
  · obtain ⟨m, y, dy, A, us, rfl, _⟩ := h
    rfl
  · obtain ⟨m, y, dy, A, us, rfl, M, O, Dy, hz, kG⟩ := h
    have tk : Takes (cxOf (L2.CX P w) P w K mg base N_kernel "kernel" (defScope s_kernel) f cdv Ar outer s H E) (fun cls d _ H => E cls d H) := takes_of rfl rfl rfl rfl
    refine ⟨_, (pss_one (ps_ret (pe_call G_kernel_of (hr.mono (by decide)) rfl d_kernel_of.g d_kernel_of.F.kp d_kernel_of.b .nil pass0 (pa_cons (pe_callS G_effect (hr.mono (by decide)) rfl d_effect.g d_effect.F.kp d_effect.b (fun σ => passAt tk σ) (pa_cons (pv 0) (pa_cons (pv 1) pa_nil))) pa_nil)))), ?_⟩
    refine ⟨_, rfl, _, rfl, m, y, dy, A, us, rfl, M, O, Dy, hz, ?_⟩
    cases hrr : rowRes A dy with
    | some k =>
      rw [hrr] at kG
      exact kG
    | none =>
      rw [hrr] at kG
      have hn1 := O.n1
      refine fun H1 t S1 ht => ⟨t, _, rfl, SqT.of ht, ?_, fun H2 q S2 hq e => kG H2 q (S1.trans S2) e⟩
      show ((List.range (rsOf us).length).map _).length ≤ 1000
      rw [List.length_map, List.length_range, rsOf_len]
      omega
end
end Lk

set_option Elab.async false
set_option linter.all false
set_option maxRecDepth 100000
set_option maxHeartbeats 4000000
namespace Lk
open PySem L2
section
variable {J : It} {n : Nat} {G : Hp → Prop} {Y : Nat → Hp → V → Hp → Prop} {g : TG} {tt : TT} {te : TE} {vs : List Nat} {σ : St} {H1 : Hp} {D : Addr} {Qd : Hp → Prop}
theorem lcWT (w : Walk J n G Y) (opt : Nat → Option (List Int)) (hD : H1 D = none) (hn : n ≤ 1000000) (hG : ∀ H, Same H1 H → G H)
    (hs : ∀ i x H H', i < n → Same H1 H → Y i H x H' → ∀ (N : Hp → Prop) (Q : VK), (opt i = none → ∀ H3, Same H H3 → N H3) → (∀ d, opt i = some d → ∀ H4 t, Same H H4 → H4 t = some (.tup (d.map V.int)) → Q (.ref t) H4) → g x (wipe σ vs) H' fun σ2 H2 => wipe σ2 vs = wipe σ vs ∧ tt σ2 H2 fun b H3 => if b = true then te σ2 H3 Q else N H3)
    (hd : ∀ H' ts, Same H1 H' → ListT H' D ts → ts.map (·.2) = (List.range n).filterMap opt → Qd H') :
    ∃ W : Nat → Nat → Hp → Prop, (∃ m, W 0 m (upd H1 D (.lst []))) ∧ ∀ i m H, W i m H →
      (J.stop i H ∧ Qd H) ∨ (J.go i H ∧ ∃ Nx : Hp → Prop, (∀ H', Nx H' → ∃ m', m' < m ∧ W (i + 1) m' H') ∧ ∀ x H', J.yld i H x H' → g x (wipe σ vs) H' fun σ2 H2 => wipe σ2 vs = wipe σ vs ∧ tt σ2 H2 fun b H3 =>
        if b = true then te σ2 H3 fun y H4 => ∃ acc, H4 D = some (.lst acc) ∧ acc.length < sizeLine ∧ Nx (upd H4 D (.lst (acc ++ [y]))) else Nx H3) := by
  refine lc_it w (fun i H => Same H1 H ∧ ∃ ts, ListT H D ts ∧ ts.map (·.2) = (List.range i).filterMap opt) ⟨Same.new hD, [], ⟨upd_same, fun t ht => by cases ht⟩, rfl⟩ (fun i H _ p => hG H p.1) (fun i x H H' hi p y => ?_) (fun H p => by
    obtain ⟨S, ts, L, e⟩ := p
    exact hd H ts S L e)
  obtain ⟨S, ts, L, e⟩ := p
  refine hs i x H H' hi S y _ _ (fun e2 H3 S3 => ⟨S.trans S3, ts, L.same S3, ?_⟩) (fun z e2 H4 t S4 ht => ⟨_, S4 _ _ L.top, ?_, ((KP.same (S := fun _ => False) (S.trans S4)).mut hD).toSame, ts ++ [(t, z)], ⟨?_, fun u hu => ?_⟩, ?_⟩)
  · rw [e, range_fmG, e2]
    simp
  · have := congrArg List.length e
    rw [List.length_map] at this
    rw [List.length_map, this]
    exact Nat.lt_of_le_of_lt (Nat.le_trans (fm_lenG i) (Nat.le_trans (Nat.le_of_lt hi) hn)) (by decide)
  · rw [upd_same, List.map_append]
    rfl
  · have nD : ∀ {u : Addr} {xs : List V}, H4 u = some (.tup xs) → u ≠ D := fun h q => by
      rw [q, S4 _ _ L.top] at h
      cases h
    rcases List.mem_append.mp hu with q | q
    · have hr := S4 _ _ (L.row u q)
      exact (upd_ne (nD hr)).trans hr
    · rw [List.mem_singleton.mp q]
      exact (upd_ne (nD ht)).trans ht
  · rw [range_fmG, e2, List.map_append, e]
    rfl
end
end Lk

set_option Elab.async false
set_option linter.all false
set_option maxRecDepth 100000
set_option maxHeartbeats 8000000
namespace Lk
open PySem L2
def spKers : Sp := fun vs H Q _ => ∃ (g : Addr) (A : Nat) (ts : List (Addr × List Int)), vs = [.int (A : Int), .ref g] ∧ GridAt H g ts ∧ RowsOk A ts ∧ ts.length ≤ 5 ∧ A ≤ 1000 ∧
  ∀ H' p kt, Same H H' → ListT H' p kt → Kers (rsOf ts) A kt → kt.length ≤ 52 → Q (.ref p) H'
theorem kerR_nil (rs : List (List Int)) : kerR rs [] = (List.range rs.length).map fun (i : Nat) => (i : Int) := by
  have h : (effs rs []) = (List.range rs.length).map fun (i : Nat) => (i : Int) := rfl
  unfold kerR kerG
  rw [h]
  refine List.ext_getElem (by simp) fun i h1 h2 => ?_
  simp only [List.getElem_map, List.getElem_range]
  have h3 : i < rs.length := by simpa using h2
  have e : ((List.range rs.length).map fun (i : Nat) => (i : Int))[i]? = some (i : Int) := by
    rw [List.getElem?_map, List.getElem?_range h3]
    rfl
  have := idx_at e fun hm => by
    rw [← List.map_take, List.take_range] at hm
    obtain ⟨j, hj, q⟩ := List.mem_map.mp hm
    have := List.mem_range.mp hj
    omega
  rw [this]
theorem Kers.mk' {A : Nat} {rs : List (List Int)} (R : Rs A rs) {kt kt' : List (Addr × List Int)} (h : ∀ t ∈ kt, ∃ ns, InA A ns ∧ t.2 = kerR rs ns) (h0 : kerR rs [] ∈ kt.map (·.2)) (hc : ∀ k ∈ kt.map (·.2), Shut rs A (kt.map (·.2)) k) (nd : (kt.map (·.2)).Nodup) (pm : kt'.Perm kt) (srt : kt'.Pairwise fun x y => TS.code 16 x.2 ≤ TS.code 16 y.2) : Kers rs A kt' := by
  refine ⟨fun t ht => h t (pm.mem_iff.mp ht), fun ns => ?_, ((pm.map (·.2)).nodup_iff).mpr nd, srt⟩
  intro ha
  rw [(pm.map (·.2)).mem_iff]
  induction ns with
  | nil => exact h0
  | cons c ns ih =>
    have ⟨c0, c1⟩ := ha c List.mem_cons_self
    rw [← ker_pull R c0 c1]
    exact hc _ (ih fun z hz => ha z (List.mem_cons_of_mem _ hz)) c c0 c1
section
variable {P : Program} {w : World} {K : PySem.W.Frag} {mg : Str → Option Value} {base : Heap}
theorem ok_kernels {f : Addr} {fd : FuncData} (A0 : Df K mg "_law_kernels" s_law_kernels f fd P_law_kernels) (T : Txt mg) (zsort : mg "sorted" = none) : FnOk P w K mg base CX0 1 f fd P_law_kernels spKers := by
  refine A0.F.ok sc_law_kernels (fun vs H Q E h => ?_) (fun cdv Ar outer s H vs Q E hr h => ?_)
  · obtain ⟨g, A, ts, rfl, _⟩ := h
    rfl
  · obtain ⟨g, A, ts, rfl, G, R, hz, hA, k⟩ := h
    have hu65 : Ar.units + 3 + 65 < cLine := by have := hr.un; simp only [Around.deeper] at this; omega
    have hu : Ar.units + 3 + 64 < cLine := by omega
    have hpos := R.pos
    refine ⟨_, (pss_cons (ps_set (i := 2) sc_law_kernels.nd rfl (Or.inl rfl) (pe_callB call_len_seq (by rfl) T.len PySem.boot_len (pa_cons (pv 1) pa_nil)))
    (pss_cons (ps_par (i := 3) (j := 4) rfl sc_law_kernels.nd rfl rfl (by decide) rfl rfl (pa_cons (pe_lst (pa_cons (pe_tupleOf (by rfl) T.tuple (pe_listRg rfl (by rfl) T.list (prg_1 (by rfl) T.range (pv 2)))) pa_nil)) (pa_cons (pe_lst (pa_cons (pe_tupleOf (by rfl) T.tuple (pe_listRg rfl (by rfl) T.list (prg_1 (by rfl) T.range (pv 2)))) pa_nil)) pa_nil)) rfl)
    (pss_cons (ps_while PassesOwn.never (pt_cmpR (op_neD hu) (pv 4) (pe_lst pa_nil) (nomark _))
      (pss_cons (ps_set (i := 5) sc_law_kernels.nd rfl (Or.inl rfl) (pe_lst pa_nil))
      (pss_cons (ps_for PassesOwn.never rfl (pi_list (pv 4)) (pg_name (i := 6) sc_law_kernels.nd rfl (Or.inr rfl))
        (pss_one (ps_for PassesOwn.never rfl (pi_range1 rfl T.range (pa_cons (pv 0) pa_nil)) (pg_name (i := 7) sc_law_kernels.nd rfl (Or.inr rfl))
          (pss_cons (ps_set (i := 8) sc_law_kernels.nd rfl (Or.inr rfl) (pe_lc (own := [("state", 9)]) (g := gName 9) (tt := tYes) (te := tOp (rIxT K) (tVar 6) (tOp (rIxL K) (tOp (rIxL K) (tVar 1) (tVar 9)) (tVar 7))) rfl sc_law_kernels.nd (pi_range1 rfl T.range (pa_cons (pv 2) pa_nil)) (blkOk_by (N := N_law_kernels) (sc := defScope s_law_kernels) (by decide +kernel)) (fun _ _ _ _ _ => (pg_name (i := 9) sc_law_kernels.nd rfl (Or.inl rfl))) (fun _ _ _ _ _ => pts_nil) (fun _ _ _ _ _ => (pe_ix ix_tup (pv 6) (pe_ix ix_list (pe_ix ix_list (pv 1) (pv 9) (fun _ _ => rfl)) (pv 7) (fun _ _ => rfl)) (fun _ _ => rfl)))))
          (pss_cons (ps_set (i := 10) sc_law_kernels.nd rfl (Or.inl rfl) (pe_tupleOf (by rfl) T.tuple (pe_lc (own := [("state", 9)]) (g := gName 9) (tt := tYes) (te := tBM K "list" (rIndex K) (tVar 8) (tCons (tVar 9) tNil)) rfl sc_law_kernels.nd (pi_list (pv 8)) (blkOk_by (N := N_law_kernels) (sc := defScope s_law_kernels) (by decide +kernel)) (fun _ _ _ _ _ => (pg_name (i := 9) sc_law_kernels.nd rfl (Or.inl rfl))) (fun _ _ _ _ _ => pts_nil) (fun _ _ _ _ _ => (pe_bm PySem.F.plainAttrs_list PySem.F.slot_list_index PySem.F.type_list_index mt_index (pv 8) (pa_cons (pv 9) pa_nil))))))
          (pss_one (ps_if (pt_cmpR (op_notInD hu65) (pv 10) (pv 3) rfl) (pss_cons (ps_expr (pe_bm PySem.F.plainAttrs_list PySem.F.slot_list_append PySem.F.type_list_append mt_append (pv 3) (pa_cons (pv 10) pa_nil)))
            (pss_one (ps_expr (pe_bm PySem.F.plainAttrs_list PySem.F.slot_list_append PySem.F.type_list_append mt_append (pv 5) (pa_cons (pv 10) pa_nil))))) pss_nil)))))))
      (pss_one (ps_set (i := 4) sc_law_kernels.nd rfl (Or.inl rfl) (pv 5))))))
    (pss_one (ps_ret (pe_callB (cr_sortT (d := ts.length) (B := 16) (by omega)) (by rfl) zsort (by decide +kernel) (pa_cons (pv 3) pa_nil))))))), ?_⟩
    have lr : (rsOf ts).length = ts.length := List.length_map ..
    have hu6 : (rsOf ts).length ≤ 5 := by rw [lr]; exact hz
    have Rr : Rs A (rsOf ts) := R.rs
    obtain ⟨id0, eid⟩ : ∃ id0, id0 = kerR (rsOf ts) [] := ⟨_, rfl⟩
    have hid : ∀ n : Nat, n = ts.length → (rgV 0 (n : Int)) = id0.map V.int := fun n hn => by
      rw [eid, kerR_nil, lr, hn]
      unfold rgV
      simp [List.map_map]
    refine ⟨_, rfl, g, _, rfl, .inl (SqL.of G.top), ?_⟩
    rw [List.length_map]
    refine ⟨_, rfl, (ts.length : Int), rfl, RgOk.of_le (by decide) (by omega) (by decide) (by omega), fun q hq => .inl ⟨q, _, rfl, SqL.of upd_same, fun i0 hi0 => ⟨by show 1 ≤ sizeLine; decide, fun fl hfl => ?_⟩⟩⟩
    rw [hid _ rfl] at hi0 hfl ⊢
    refine ⟨_, rfl, (ts.length : Int), rfl, RgOk.of_le (by decide) (by omega) (by decide) (by omega), fun q2 hq2 => .inl ⟨q2, _, rfl, SqL.of upd_same, fun i1 hi1 => ⟨by show 1 ≤ sizeLine; decide, fun fp hfp => ⟨_, _, rfl, ?_⟩⟩⟩⟩
    rw [hid _ rfl] at hi1 hfp ⊢
    obtain ⟨W1, eW1⟩ : ∃ W1, W1 = upd (upd (upd H q (HO.lst (id0.map V.int))) i0 (HO.tup (id0.map V.int))) fl (HO.lst [V.ref i0]) := ⟨_, rfl⟩
    have f0 : H fl = none := ff hq (ff hi0 hfl)
    have S1 : Same H W1 := by rw [eW1]; exact ((Same.new hq).trans (Same.new hi0)).trans (Same.new hfl)
    have gi0 : W1 i0 = some (.tup (id0.map V.int)) := by rw [eW1]; exact nk upd_same hfl
    have gfl : W1 fl = some (.lst [V.ref i0]) := by rw [eW1]; exact upd_same
    rw [← eW1] at hq2 hi1 hfp ⊢
    obtain ⟨W2, eW2⟩ : ∃ W2, W2 = upd (upd (upd W1 q2 (HO.lst (id0.map V.int))) i1 (HO.tup (id0.map V.int))) fp (HO.lst [V.ref i1]) := ⟨_, rfl⟩
    have S2 : Same W1 W2 := by rw [eW2]; exact ((Same.new hq2).trans (Same.new hi1)).trans (Same.new hfp)
    have gi1 : W2 i1 = some (.tup (id0.map V.int)) := by rw [eW2]; exact nk upd_same hfp
    have gfp : W2 fp = some (.lst [V.ref i1]) := by rw [eW2]; exact upd_same
    have nfp : fp ≠ fl := fun e => by
      have := ff hq2 (ff hi1 hfp)
      rw [e, gfl] at this
      cases this
    rw [← eW2]
    clear eW1 eW2 hq2 hi1 hfp hq hi0 hfl
    refine norm (σ' := [some (.int (A : Int)), some (.ref g), some (.int (ts.length : Int)), some (.ref fl), some (.ref fp), none, none, none, none, none, none]) rfl ?_
    have one : ∀ t : Addr × List Int, t ∈ [(i0, id0)] → t = (i0, id0) := fun t ht => List.mem_singleton.mp ht
    refine ⟨fun m σ U => ∃ (fp : Addr) (kt fr : List (Addr × List Int)) (v5 v6 v7 v8 v10 : Option V), σ = [some (.int (A : Int)), some (.ref g), some (.int (ts.length : Int)), some (.ref fl), some (.ref fp), v5, v6, v7, v8, none, v10] ∧ Same H U ∧ ListT U fl kt ∧ ListT U fp fr ∧ fp ≠ fl ∧ (∀ t ∈ kt, ∃ ns, InA A ns ∧ t.2 = kerR (rsOf ts) ns) ∧ (kt.map (·.2)).Nodup ∧ (∀ t ∈ fr, t.2 ∈ kt.map (·.2)) ∧ kerR (rsOf ts) [] ∈ kt.map (·.2) ∧
        (∀ x ∈ kt.map (·.2), x ∈ fr.map (·.2) ∨ Shut (rsOf ts) A (kt.map (·.2)) x) ∧ m = 2 * (52 - kt.length) + (if fr = [] then 0 else 1),
      ⟨_, fp, [(i0, id0)], [(i1, id0)], none, none, none, none, none, rfl, S1.trans S2, ⟨S2 _ _ gfl, fun t ht => by rw [List.mem_singleton.mp ht]; exact S2 _ _ gi0⟩, ⟨gfp, fun t ht => by rw [List.mem_singleton.mp ht]; exact gi1⟩, nfp, fun t ht => ⟨[], fun c hc => (by cases hc), by rw [List.mem_singleton.mp ht]; exact eid⟩, by simp, fun t ht => by rw [List.mem_singleton.mp ht]; exact List.mem_cons_self, by rw [← eid]; exact List.mem_cons_self, fun x hx => .inl (by simpa using hx), rfl⟩, ?_⟩
    clear S2 gi1 gfp nfp gfl gi0 S1
    rintro m σ U1 ⟨fp, kt, fr, v5, v6, v7, v8, v10, rfl, SU1, Fk, Fr, nf, hker, hnd, hin, hidl, hsh, rfl⟩
    have hfew := kers_few (rs := rsOf ts) (A := A) hu6 hker hnd
    refine ⟨_, rfl, Nat.zero_le _, fun z hz => ⟨_, _, dp_listT (Fr.same (Same.new hz)), Dp.lst (SqL.of upd_same) .nil, lay_rowsT _, by decide +kernel, _, rfl, ?_⟩⟩
    rw [eqv_nil]
    have SU2 := SU1.trans (Same.new (o := HO.lst []) hz)
    have Fk := Fk.same (Same.new (o := HO.lst []) hz)
    have Fr := Fr.same (Same.new (o := HO.lst []) hz)
    obtain ⟨U2, eU⟩ : ∃ U2, U2 = upd U1 z (HO.lst []) := ⟨_, rfl⟩
    rw [← eU] at SU2 Fk Fr ⊢
    clear eU hz
    by_cases hfr : fr = []
    · subst hfr
      refine iteF ⟨_, rfl, ?_⟩
      refine ⟨fl, _, rfl, SqL.of Fk.top, by rw [List.length_map]; omega, fun x hx => ?_, fun ys p pm srt hp => ?_⟩
      · obtain ⟨t, ht, rfl⟩ := List.mem_map.mp hx
        obtain ⟨ns, _, e⟩ := hker t ht
        refine ⟨t.2, ⟨t.1, rfl, SqT.of (Fk.row t ht)⟩, by rw [e, kerR_len, lr], fun z hz => ?_⟩
        rw [e] at hz
        have := kerR_in z hz
        omega
      · obtain ⟨kt', pm', rfl⟩ := perm_back pm rfl
        have Fk' : ListT (upd U2 p (HO.lst (kt'.map fun t => V.ref t.1))) p kt' := ⟨upd_same, fun t ht => (Same.new hp) _ _ (Fk.row t (pm'.mem_iff.mp ht))⟩
        refine k _ p kt' (SU2.trans (Same.new hp)) Fk' (Kers.mk' Rr hker hidl (fun x hx => (hsh x hx).resolve_left (fun q => (by cases q))) hnd pm' ?_) (by rw [pm'.length_eq]; exact hfew)
        refine List.Pairwise.imp_of_mem (fun {x y} hx hy h => ?_) (List.pairwise_map.mp srt)
        exact h _ _ ⟨x.1, rfl, SqT.of (Fk.row x (pm'.mem_iff.mp hx))⟩ ⟨y.1, rfl, SqT.of (Fk.row y (pm'.mem_iff.mp hy))⟩
    · rw [show ((fr.map (·.2)).map rowP).isEmpty = false by cases fr with
        | nil => exact absurd rfl hfr
        | cons _ _ => rfl]
      refine iteT ⟨fun σ' U => ∃ m', m' < 2 * (52 - kt.length) + (if fr = [] then 0 else 1) ∧ ∃ (fp : Addr) (kt fr : List (Addr × List Int)) (v5 v6 v7 v8 v10 : Option V), σ' = [some (.int (A : Int)), some (.ref g), some (.int (ts.length : Int)), some (.ref fl), some (.ref fp), v5, v6, v7, v8, none, v10] ∧ Same H U ∧ ListT U fl kt ∧ ListT U fp fr ∧ fp ≠ fl ∧ (∀ t ∈ kt, ∃ ns, InA A ns ∧ t.2 = kerR (rsOf ts) ns) ∧ (kt.map (·.2)).Nodup ∧ (∀ t ∈ fr, t.2 ∈ kt.map (·.2)) ∧ kerR (rsOf ts) [] ∈ kt.map (·.2) ∧
        (∀ x ∈ kt.map (·.2), x ∈ fr.map (·.2) ∨ Shut (rsOf ts) A (kt.map (·.2)) x) ∧ m' = 2 * (52 - kt.length) + (if fr = [] then 0 else 1), fun _ _ h => h, ?_⟩
      rw [if_neg hfr]
      refine ⟨Nat.zero_le _, fun l hl => ?_⟩
      refine norm (σ' := [some (.int (A : Int)), some (.ref g), some (.int (ts.length : Int)), some (.ref fl), some (.ref fp), some (.ref l), v6, v7, v8, none, v10]) rfl ?_
      have X0 : KerL H (upd U2 l (HO.lst [])) (rsOf ts) A fl l fp kt.length kt [] fr :=
        ⟨SU2.trans (Same.new hl), f0, SU2.free hl, Fk.same (Same.new hl), ⟨upd_same, fun t ht => by cases ht⟩, Fr.same (Same.new hl), ne_of_none Fr.top hl, nf, ne_of_none Fk.top hl, hker, hnd, fun t ht => (by cases ht), hin, Nat.zero_add _, hidl⟩
      obtain ⟨U3, eU3⟩ : ∃ U3, U3 = upd U2 l (HO.lst []) := ⟨_, rfl⟩
      rw [← eU3] at X0 ⊢
      clear eU3 hl
      obtain ⟨n0, en0⟩ : ∃ n0, n0 = kt.length := ⟨_, rfl⟩
      rw [← en0] at X0 hfew ⊢
      refine ⟨_, rfl, fp, rfl, ⟨_, SqL.of X0.Fr.top⟩, for_list (K := K) (a := fp) (xs := fr.map fun t => V.ref t.1) (fun i σ U => ∃ (kt lt : List (Addr × List Int)) (v6 v7 v8 v10 : Option V), σ = [some (.int (A : Int)), some (.ref g), some (.int (ts.length : Int)), some (.ref fl), some (.ref fp), some (.ref l), v6, v7, v8, none, v10] ∧ KerL H U (rsOf ts) A fl l fp n0 kt lt fr ∧
        ∀ x ∈ kt.map (·.2), x ∈ (fr.drop i).map (·.2) ∨ x ∈ lt.map (·.2) ∨ Shut (rsOf ts) A (kt.map (·.2)) x)
        ⟨kt, [], v6, v7, v8, v10, rfl, X0, fun x hx => (hsh x hx).elim .inl fun q => .inr (.inr q)⟩ (fun i σ U _ h => by obtain ⟨kt, lt, _, _, _, _, _, X, _⟩ := h; exact SqL.of X.Fr.top) ?_ ?_⟩
      · rintro i x σ U4 hx ⟨kt, lt, v6, v7, v8, v10, rfl, X, hC⟩
        rw [List.getElem?_map] at hx
        obtain ⟨one, h1, h2⟩ := Option.map_eq_some_iff.mp hx
        subst h2
        have hm1 := List.mem_of_getElem? h1
        refine ⟨_, rfl, (A : Int), rfl, by omega, by omega, ?_⟩
        rw [Int.toNat_natCast]
        refine for_range (lo := 0) (n := A) (fun j σ U => ∃ (kt lt : List (Addr × List Int)) (v7 v8 v10 : Option V), σ = [some (.int (A : Int)), some (.ref g), some (.int (ts.length : Int)), some (.ref fl), some (.ref fp), some (.ref l), some (.ref one.1), v7, v8, none, v10] ∧ KerL H U (rsOf ts) A fl l fp n0 kt lt fr ∧
          (∀ x ∈ kt.map (·.2), x ∈ (fr.drop i).map (·.2) ∨ x ∈ lt.map (·.2) ∨ Shut (rsOf ts) A (kt.map (·.2)) x) ∧ ∀ c : Int, 0 ≤ c → c < (j : Int) → kerG (pull (rsOf ts) one.2 c) ∈ kt.map (·.2)) ⟨kt, lt, v7, v8, v10, rfl, X, hC, fun c c0 c1 => by omega⟩ ?_ ?_
        · rintro j σ U5 hj ⟨kt, lt, v7, v8, v10, rfl, X, hC, hJ⟩
          rw [show (0 : Int) + (j : Int) = (j : Int) by omega]
          have hon := X.inf one hm1
          obtain ⟨e, he, ek⟩ := List.mem_map.mp hon
          obtain ⟨ens, eA, eK⟩ := X.ker e he
          obtain ⟨kk, ekk⟩ : ∃ kk, kk = one.2 := ⟨_, rfl⟩
          have hok : kk = kerR (rsOf ts) ens := by rw [ekk, ← ek, eK]
          have h1t := X.Fr.row one hm1
          rw [← ekk] at hJ h1t
          have kl : kk.length = ts.length := by rw [hok, kerR_len, lr]
          have j0 : (0 : Int) ≤ (j : Int) := by omega
          have j1 : (j : Int) < (A : Int) := by omega
          have G5 := G.same X.S
          refine ⟨_, rfl, (ts.length : Int), rfl, by omega, by omega, fun D hD => ?_⟩
          rw [Int.toNat_natCast]
          refine lcW1 (fun i => some (.int (i : Int))) walk_rangeV (fun k => ((pull (rsOf ts) kk (j : Int)).map V.int)[k]?) hD (by omega) (fun _ _ => trivial) ?_ ?_
          · intro k0 x H3 hk S3 hx2 N2 Q2 _ kQ2
            obtain rfl := Option.some.inj hx2
            obtain ⟨u, hu2, hum, hui, b0, b1⟩ := gridAt_step R (s := (k0 : Int)) (x := (j : Int)) (by omega) (by omega) j0 j1
            have G3 := G5.same S3
            have pk := pull_get Rr (one := kk) (i := k0) (by rw [lr]; exact hk) j0 j1
            refine iteT (B := N2 H3) ⟨_, rfl, _, rfl, _, rfl, g, _, _, V.ref u.1, rfl, rfl, SqL.of G3.top, atI_int (by omega) (by rw [List.getElem?_map, hu2] <;> rfl), _, rfl, u.1, _, _, _, rfl, rfl, SqL.of (G3.row u hum), atI_int j0 hui, one.1, _, _, _, rfl, rfl, SqT.of (S3 _ _ h1t), atI_int b0 (show (kk.map V.int)[_]? = some (V.int (kk.getD (stp (rsOf ts) (k0 : Int) (j : Int)).toNat 0)) by rw [List.getElem?_map, item_of b0 (by omega) (0 : Int)] <;> rfl), kQ2 _ ?_ H3 (Same.refl _)⟩
            rw [List.getElem?_map, pk]
            rfl
          intro U6 S6 e6
          rw [fm_get _ (by rw [List.length_map, pull_len, lr])] at e6
          have X6 := X.same S6
          obtain ⟨pl, epl⟩ : ∃ pl, pl = pull (rsOf ts) kk (j : Int) := ⟨_, rfl⟩
          rw [← epl] at e6
          have kpl : kerG pl = kerR (rsOf ts) ((j : Int) :: ens) := by rw [epl, hok, ker_pull Rr j0 j1]
          have pll : pl.length = ts.length := by rw [epl, pull_len, lr]
          refine ⟨_, rfl, D, rfl, ⟨_, SqL.of e6⟩, fun D2 hD2 => ?_⟩
          have wp := walk_list (K := K) (a := D) (xs := pl.map V.int)
          rw [List.length_map] at wp
          refine lcW1 (fun k => (pl.map V.int)[k]?) wp (fun k => ((kerG pl).map V.int)[k]?) hD2 (by omega) (fun H' S => SqL.of (S _ _ e6)) ?_ ?_
          · intro k0 x H3 hk S3 hx2 N2 Q2 _ kQ2
            obtain ⟨y, hy, rfl⟩ := get_int hx2
            refine iteT (B := N2 H3) ⟨_, rfl, .inl ⟨rfl, _, SqL.of (S3 _ _ e6)⟩, _, rfl, idx_read (SqL.of (S3 _ _ e6)) (List.mem_of_getElem? hy) (kQ2 _ ?_ H3 (Same.refl _))⟩
            rw [List.getElem?_map, ker_get hy]
            rfl
          intro U7 S7 e7
          rw [fm_get _ (by rw [List.length_map, ker_len])] at e7
          refine .inl ⟨D2, _, rfl, SqL.of e7, fun lg hlg => ?_⟩
          have X7 := (X6.same S7).same (Same.new (o := HO.tup ((kerG pl).map V.int)) hlg)
          obtain ⟨U8, eU8⟩ : ∃ U8, U8 = upd U7 lg (HO.tup ((kerG pl).map V.int)) := ⟨_, rfl⟩
          have tl : U8 lg = some (.tup ((kerG pl).map V.int)) := by rw [eU8]; exact upd_same
          rw [← eU8] at X7 ⊢
          clear eU8 hlg
          have kfew := kers_few (rs := rsOf ts) (A := A) hu6 X7.ker X7.nd
          refine ⟨_, rfl, _, rfl, rowP (kerG pl), (kt.map (·.2)).map rowP, .tup (SqT.of tl) (dpAll_ints _), dp_listT X7.F, shaped_rowK _, lay_rowsT _, _, rfl, ?_⟩
          rw [any_rowsK]
          have hJn : ∀ kt' : List (Addr × List Int), (∀ x ∈ kt.map (·.2), x ∈ kt'.map (·.2)) → kerG pl ∈ kt'.map (·.2) → ∀ c : Int, 0 ≤ c → c < ((j + 1 : Nat) : Int) → kerG (pull (rsOf ts) one.2 c) ∈ kt'.map (·.2) := fun kt' hs hk c c0 c1 => by
            rw [← ekk]
            by_cases q : c < (j : Int)
            · exact hs _ (hJ c c0 q)
            · have ec : c = (j : Int) := by omega
              rw [ec, ← epl]
              exact hk
          by_cases hin : kerG pl ∈ kt.map (·.2)
          · rw [decide_eq_true hin]
            exact iteF ⟨kt, lt, _, _, _, rfl, X7, hC, hJn kt (fun _ h => h) hin⟩
          · rw [decide_eq_false hin]
            have X8 := X7.add (ns := (j : Int) :: ens) (t := lg) (by rw [← kpl]; exact tl) (fun c hc => (List.mem_cons.mp hc).elim (fun q => by rw [q]; exact ⟨j0, j1⟩) (eA c)) (by rw [← kpl]; exact hin)
            have hm : ∀ x ∈ kt.map (·.2), x ∈ (kt ++ [(lg, kerR (rsOf ts) ((j : Int) :: ens))]).map (·.2) := fun x hx => by
              rw [List.map_append]
              exact List.mem_append_left _ hx
            have hl1 : upd U8 fl (.lst ((kt.map fun t => V.ref t.1) ++ [V.ref lg])) l = some (.lst (lt.map fun t => V.ref t.1)) := by
              rw [upd_ne X7.n3.symm]
              exact X7.L.top
            have hcnt := X7.cnt
            refine iteT ⟨_, rfl, .inl ⟨rfl, _, SqL.of X7.F.top⟩, _, rfl, fl, _, _, rfl, rfl, X7.F.top, Nat.lt_of_le_of_lt (show _ ≤ 52 by rw [List.length_map]; omega) (by decide), ?_⟩
            refine ⟨_, rfl, .inl ⟨rfl, _, SqL.of hl1⟩, _, rfl, l, _, _, rfl, rfl, hl1, Nat.lt_of_le_of_lt (show _ ≤ 52 by rw [List.length_map]; omega) (by decide), _, _, _, _, _, rfl, X8, fun x hx => ?_, hJn _ hm (by rw [kpl, List.map_append]; exact List.mem_append_right _ List.mem_cons_self)⟩
            rw [List.map_append] at hx
            rcases List.mem_append.mp hx with q | q
            · rcases hC x q with q | q | q
              · exact .inl q
              · exact .inr (.inl (by rw [List.map_append]; exact List.mem_append_left _ q))
              · exact .inr (.inr fun c c0 c1 => hm _ (q c c0 c1))
            · rw [List.map_append]
              exact .inr (.inl (List.mem_append_right _ (by rw [List.mem_singleton.mp q]; exact List.mem_cons_self)))
        · rintro σ U5 ⟨kt, lt, v7, v8, v10, rfl, X, hC, hJ⟩
          refine ⟨kt, lt, _, _, _, _, rfl, X, fun x hx => ?_⟩
          rcases hC x hx with q | q | q
          · rw [show fr.drop i = one :: fr.drop (i + 1) by obtain ⟨h3, rfl⟩ := List.getElem?_eq_some_iff.mp h1; exact List.drop_eq_getElem_cons h3, List.map_cons, List.mem_cons] at q
            rcases q with q | q
            · rw [q]
              exact .inr (.inr hJ)
            · exact .inl q
          · exact .inr (.inl q)
          · exact .inr (.inr q)
      · rintro σ U4 ⟨kt', lt, v6, v7, v8, v10, rfl, X, hC⟩
        have h1 := X.cnt
        have h2 := kers_few (rs := rsOf ts) (A := A) hu6 X.ker X.nd
        refine ⟨_, rfl, ?_⟩
        refine ⟨_, ?_, l, kt', lt, _, _, _, _, _, rfl, X.S, X.F, X.L, X.n3.symm, X.ker, X.nd, X.inl, X.idle, fun x hx => (hC x hx).elim (fun q => by rw [List.drop_of_length_le (by rw [List.length_map]; exact Nat.le_refl _)] at q; cases q) id, rfl⟩
        cases lt with
        | nil =>
          rw [if_pos rfl]
          rw [List.length_nil] at h1
          omega
        | cons _ _ =>
          rw [if_neg (fun q => by cases q)]
          rw [List.length_cons] at h1
          omega
end
end Lk

set_option Elab.async false
set_option linter.all false
set_option maxRecDepth 100000
set_option maxHeartbeats 4000000
/-! {k: v} where k is a tuple; str of a tuple -/
namespace Lk
open PySem PySem.Spec PyProof.Rows L2
def tDispT (tk tv : TE) : TE := fun σ H Q => ∀ p, H p = none → tk σ (upd H p (.dT [])) fun x H1 => tv σ H1 fun y H2 => ∃ (k : List Key) (b : Addr), x = .ref b ∧ H2 p = some (.dT []) ∧ H2 b = some (.tup (k.map kV)) ∧ Q (.ref p) (upd H2 p (.dT [(k, y)]))
theorem pe_dispT {X : Cx} {pos : Pos} {ek ev : Expr} {tk tv : TE} (hu : X.A.units + 1 < cLine) (hk : PE X ek tk) (hv : PE X ev tv) : PE X (.Dict [some ek] [ev] pos) (tDispT tk tv) := by
  refine ⟨fun pins s σ H Q I q => ?_⟩
  have hn := I.hok.fresh (Nat.le_refl s.heap.objs.size)
  have I1 := I.laid (a := s.heap.objs.size) (o := .dT []) (h' := s.heap.push { cls := .type "dict", data := .dict #[] }) (t' := s.toks) (fun _ _ q => Heap.get?_push_of_some _ q) (Nat.le_refl _) (dt_empty s.heap I.big)
  have ht : (pairTrees [some ek] [ev] X.env pos).length = 1 := pairTrees_length _ _ _ _ rfl rfl
  rw [arm_eval_Dict, zip_pairTrees [some ek] [ev] X.env pos rfl rfl, dictDisplay_pairs _ (fun e => by rw [e] at ht; cases ht) (by omega)]
  refine wpAny_bind (wpAny_standAt (wpAny_bind (wpAny_subDictH (knd := tupleKind (mixKind X.prog X.w)) (show X.A.units < cLine by omega) (by omega) ?_)))
  refine pairTrees_cons_walk (thn (hk.run pins _ σ _ _ I1 (q _ hn)) fun u s1 ⟨x, H1, I2, rx, q1⟩ => thn (hv.run pins s1 σ H1 _ I2 q1) fun w2 s2 ⟨y, H2, I3, ry, k, b, ex, hp, hb, q2⟩ => pairTrees_nil_walk ?_)
  subst ex
  cases rx
  obtain ⟨z, hd, xs, rel, dd⟩ := dt_of I3.hok hp
  cases rel
  refine ⟨[(k, b, w2)], ⟨rfl, rfl, key_of I3.hok hb, trivial⟩, dd, fun h' tk' dd' hs => wpAny_pure ⟨.ref s.heap.objs.size, _, ?_, rfl, q2⟩⟩
  obtain ⟨qo, es, ep, hq, g2, g3, g4, _, g5⟩ := dd'
  refine d_write I3 (by rw [hp]; exact True.intro) hs ⟨qo, hq⟩ ⟨by show 1 ≤ sizeLine; decide, hd, _, ((show KT H2 [] [] from .nil).put k hb ry).keeps fun c ys ec => ?_, qo, es, ep, hq, g2, g3, g4, g5⟩
  rw [upd_ne (ne_of ec hp (fun z => nomatch z))]
  exact ec
/-- str of lists and tuples -/
theorem call_strT {X : Cx} (hg : X.A.guards = some []) (hu : X.A.units + 16 < cLine) : CallR X (.type "str") (fun xs H Q => ∃ (a : Addr) (d : PyData), xs = [.ref a] ∧ Dp X.K H (.ref a) d ∧ Sh d ∧ Q (.str d.shown) H) := by
  intro pins s σ H xs us Q I r h
  obtain ⟨a, d, rfl, D, sh, q⟩ := h
  obtain ⟨u, rfl, ru⟩ := Vals.one r
  obtain rfl : u = Value.ref a := ru
  obtain ⟨as, rd⟩ := Dp.reads I d _ _ D rfl
  refine PySem.str_of_reads rd sh.s (fun h' => by rw [sh.n] at h'; cases h') hg (by have := sh.dp; omega) (fun b o e => e) (fun h' w tk hk => ⟨.str d.shown, H, ?_, ⟨_, rfl⟩, q⟩) sh.size
  exact I.kept (t' := tk) hk
end Lk

set_option Elab.async false
set_option linter.all false
set_option maxRecDepth 100000
set_option maxHeartbeats 4000000
/-! sets of tuples of ints: is one within (the search that adds nothing) -/
namespace Lk
open PySem PySem.Spec PyProof.Rows L2
section
variable {P : Program} {w : World} {A : Around} {E : Value → Shared → Prop} {s : Shared} {a : Addr} {L : List (Addr × List Int)} {es : Array (Int × Value)} {ep : Nat} {t : SetTable}
theorem nth_bare (m : Nat) : ∀ (n : Nat) (p : SetTable.Probe), p.dummy = none → (nth m p n).dummy = none
  | 0, _, h => h
  | n + 1, p, h => nth_bare m n (adv m p) (by unfold adv; split <;> exact h)
/-- the probe after c steps -/
abbrev stepAt (m : Nat) (h : Int) (c : Nat) : SetTable.Probe := nth m (runAt m (SetTable.bits h % (m + 1)) (SetTable.bits h)) c
theorem stepAt_add (m : Nat) (h : Int) (c q : Nat) : nth m (stepAt m h c) q = stepAt m h (c + q) := (nth_add m c _ q).symm
theorem seek (R : SetTR P w s.heap a L es ep t) {x : Addr} {k : List Int} (hx : IsT P w s.heap k x) (hu : A.units < cLine) {K : Nat} (bd : K < 10 * SetTable.turns t.mask) (gap : way t.mask (thash P w k) K ∉ t.place.toList) (full : ∀ c, c < K → way t.mask (thash P w k) c ∈ t.place.toList)
    {Q : SetFound → Shared → Prop} (yes : k ∈ L.map (·.2) → ∀ i, Q (.there (some i)) s) (no : k ∉ L.map (·.2) → ∀ j, Q (.free j false) s) (f : Nat) : ∀ (c : Nat) (b : Option SetTable.Probe), b.getD (t.probeStart (thash P w k)) = stepAt t.mask (thash P w k) c → c ≤ K → K - c < f →
      (∀ (i : Nat) p, L[i]? = some p → p.2 = k → ∃ c', c ≤ c' ∧ c' < K ∧ t.place.toList[i]? = some (way t.mask (thash P w k) c')) → wpAny (model P w) A (setSearchFrom a (.ref x) (thash P w k) false f b) Q E s := by
  induction f with
  | zero => exact fun c b _ _ h => absurd h (Nat.not_lt_zero _)
  | succ f ih =>
    intro c b hb hc hf back
    obtain ⟨o, ho, _, hd⟩ := R.ob
    have live : ∀ {i j : Nat}, t.place.toList[i]? = some j → i < L.length := fun {i j} h => by
      have h1 := (List.getElem?_eq_some_iff.mp h).1
      have h2 := R.tab.sz
      rw [List.length_map] at h2
      rw [Array.length_toList] at h1
      omega
    have hashOf : ∀ {i : Nat} {p : Addr × List Int}, L[i]? = some p → ((es[i]?).map (·.1)).getD 0 = thash P w p.2 := fun h => by rw [R.entry h] <;> rfl
    have spec := go_spec t R.tab.ris R.tab.dm (fun i => ((es[i]?).map (·.1)).getD 0) (thash P w k) (10 * SetTable.turns t.mask) (K - c) (stepAt t.mask (thash P w k) c) (nth_bare _ _ _ rfl) (by omega)
      (fun q hq => by rw [stepAt_add]; exact full (c + q) (by omega)) (by rw [stepAt_add, Nat.add_sub_cancel' hc]; exact gap)
    -- whoever has the key stands at the first place where the hash is met
    have never : ∀ {n : Nat}, (∀ k' i' : Nat, k' < n → t.place.toList[i']? = some (nth t.mask (stepAt t.mask (thash P w k) c) k').j → ((es[i']?).map (·.1)).getD 0 ≠ thash P w k) → ∀ {i : Nat} {p : Addr × List Int} {c' : Nat}, L[i]? = some p → p.2 = k → c ≤ c' → c' < c + n → t.place.toList[i]? = some (way t.mask (thash P w k) c') → False := fun {n} nm {i p c'} h1 h2 h3 h4 h5 => by
      refine nm (c' - c) i (by omega) (by rw [stepAt_add, Nat.add_sub_cancel' h3]; exact h5) ?_
      rw [hashOf h1, h2]
    rw [setSearchFrom_succ]
    refine wpAny_bind (wpAny_setState_of ho hd R.fits ?_)
    dsimp only
    refine wp_if_neg R.gw ?_
    try refine wpAny_bind (wpAny_pure ?_)
    rw [hb]
    rcases spec with ⟨q, i, hq, hi, hh, nm, hpr⟩ | ⟨nm, hpr⟩
    · rw [show t.probe (fun i => ((es[i]?).map (·.1)).getD 0) (thash P w k) (stepAt t.mask (thash P w k) c) = _ from hpr]
      rw [stepAt_add] at hi ⊢
      rw [stepAt_add]
      dsimp only
      obtain ⟨p, hp⟩ : ∃ p, L[i]? = some p := ⟨_, List.getElem?_eq_getElem (live hi)⟩
      have hm : p ∈ L := List.mem_of_getElem? hp
      have sl : t.slot (way t.mask (thash P w k) (c + q)) = .live i := slot_live R.tab.ris hi
      have go : wpAny (model P w) A (searchRest a (.ref x) (thash P w k) false f es t (way t.mask (thash P w k) (c + q)) i (stepAt t.mask (thash P w k) (c + (q + 1)))) Q E s := by
        unfold searchRest
        rw [R.entry hp]
        dsimp only
        refine wpAny_bind (wpAny_holding (wpAny_eqBool_tuple hu (R.tup p hm) hx (wpAny_bind (wpAny_setState_of ho hd R.fits ?_))))
        dsimp only
        refine wp_if_neg (by simp) ?_
        try refine wpAny_bind (wpAny_pure ?_)
        rw [sameMem]
        dsimp only
        simp only [if_true, sl, R.entry hp]
        refine wpAny_bind (wpAny_isSame_ref_self (wpAny_bind (wpAny_pure ?_)))
        simp only [if_true]
        by_cases e : p.2 = k
        · exact wp_if_pos (by simp [e]) (wpAny_pure (yes (List.mem_map.mpr ⟨p, hm, e⟩) i))
        · refine wp_if_neg (by simp [e]) (ih (c + (q + 1)) _ rfl (by omega) (by omega) fun i0 p0 h1 h2 => ?_)
          obtain ⟨c', b1, b2, b3⟩ := back i0 p0 h1 h2
          refine ⟨c', ?_, b2, b3⟩
          refine Nat.lt_of_not_le fun z => ?_
          rcases Nat.lt_or_eq_of_le z with z | z
          · exact never nm h1 h2 b1 z b3
          · rw [z] at b3
            have s2 : t.slot (way t.mask (thash P w k) (c + q)) = .live i0 := slot_live R.tab.ris b3
            rw [sl] at s2
            injection s2 with s2
            rw [← s2, hp] at h1
            exact e ((congrArg Prod.snd (Option.some.inj h1)).trans h2)
      by_cases hl : t.led = true
      · refine wp_if_neg (by simp [hl]) ?_
        try refine wpAny_bind (wpAny_pure ?_)
        exact go
      · refine wp_if_pos (by simp [hl]) (wpAny_bind (seen_tup hx (fun y hy => ?_) (wp_if_neg (by decide) ?_)))
        · obtain ⟨e, he, ee⟩ := List.mem_map.mp hy
          have h1 : e ∈ es ∧ e.1 = thash P w k := by simpa using he
          have h2 : e ∈ es.toList := by simpa using h1.1
          rw [R.rows] at h2
          obtain ⟨p2, hp2, e2⟩ := List.mem_map.mp h2
          exact ⟨p2.2, p2.1, by rw [← ee, ← e2], R.tup p2 hp2⟩
        · try refine wpAny_bind (wpAny_pure ?_)
          exact go
    · rw [show t.probe (fun i => ((es[i]?).map (·.1)).getD 0) (thash P w k) (stepAt t.mask (thash P w k) c) = _ from hpr]
      dsimp only
      refine wpAny_pure (no (fun hm => ?_) _)
      obtain ⟨p, hp, e⟩ := List.mem_map.mp hm
      obtain ⟨i, hi⟩ := List.getElem?_of_mem hp
      obtain ⟨c', b1, b2, b3⟩ := back i p hi e
      exact never (n := K - c) nm hi e b1 (by omega) b3
end
end Lk

set_option Elab.async false
set_option linter.all false
set_option maxRecDepth 100000
set_option maxHeartbeats 4000000
/-! sets of tuples of ints: in, not in, add, the display of one member -/
namespace Lk
open PySem PySem.Spec PyProof.Rows L2
section
variable {P : Program} {w : World} {A : Around} {E : Value → Shared → Prop} {s : Shared} {a : Addr} {L : List (Addr × List Int)} {es : Array (Int × Value)} {ep : Nat} {t : SetTable}
theorem SetTR.isSet (R : SetTR P w s.heap a L es ep t) : s.TypeIs (.ref a) "set" := let ⟨o, ho, hc, _⟩ := R.ob; ⟨o, ho, hc.1⟩
theorem SetTR.bare (R : SetTR P w s.heap a L es ep t) : ∀ b, Value.ref a = .ref b → ∃ ob, s.heap.get? b = some ob ∧ ob.dict = none := fun b e => by
  injection e with e
  subst e
  obtain ⟨o, ho, hc, _⟩ := R.ob
  exact ⟨o, ho, hc.2.1⟩
theorem find_at (R : SetTR P w s.heap a L es ep t) {x : Addr} {k : List Int} (hx : IsT P w s.heap k x) (hu : A.units < cLine) {Q : Option Nat → Shared → Prop} (h : ∀ r : Option Nat, r.isSome = decide (k ∈ L.map (·.2)) → Q r s) : wpAny (model P w) A (setFind a (.ref x) (thash P w k)) Q E s := by
  obtain ⟨o, ho, _, hd⟩ := id R.ob
  have hr := R.room
  obtain ⟨K, bd, gap, full⟩ := R.tab.first (by rw [List.length_map]; omega) (thash P w k)
  have small : K < 100000 := by
    have : 10 * SetTable.turns t.mask ≤ 1420 := by
      unfold SetTable.turns
      rcases R.tab.mok with e | e | e <;> omega
    omega
  unfold setFind setFindIn
  refine wpAny_bind (wpAny_setState_of ho hd R.fits ?_)
  dsimp only
  refine wp_if_neg (by simp [byScan, Value.scannable]) ?_
  try refine wpAny_bind (wpAny_pure ?_)
  unfold setSearch
  refine wpAny_bind (seek R hx hu bd gap full (fun hm i => ?_) (fun hm j => ?_) 100000 0 none rfl (Nat.zero_le _) (by omega) fun i p hp hk => ?_)
  · dsimp only
    exact wpAny_pure (h _ (by rw [decide_eq_true hm] <;> rfl))
  · dsimp only
    exact wpAny_pure (h _ (by rw [decide_eq_false hm] <;> rfl))
  · have hi : (L.map fun p => thash P w p.2)[i]? = some (thash P w k) := by rw [List.getElem?_map, hp, ← hk] <;> rfl
    have hl : i < t.place.toList.length := by
      have h1 := (List.getElem?_eq_some_iff.mp hp).1
      have h2 := R.tab.sz
      rw [List.length_map] at h2
      rw [Array.length_toList]
      omega
    have hj := List.getElem?_eq_getElem hl
    obtain ⟨c, hc, e⟩ := R.tab.before gap hi hj
    exact ⟨c, Nat.zero_le _, hc, by rw [hj, e]⟩
theorem holds_T (R : SetTR P w s.heap a L es ep t) {x : Addr} {k : List Int} (hx : IsT P w s.heap k x) (hu : A.units + 8 < cLine) {Q : Bool → Shared → Prop} (h : Q (decide (k ∈ L.map (·.2))) { s with toks := s.toks + (k.length + 1) }) : wpAny (model P w) A (contains (.ref a) (.ref x)) Q E s := by
  unfold contains
  try with_reducible refine wpAny_holding ?_
  refine wpAny_bind (wpAny_specialOf (SetTR.isSet R) F.slot_set_contains.lookup ?_)
  show wpAny _ _ (if (some (Value.builtin "set.__contains__") == some Value.none) = true then _ else _) _ E s
  refine wp_if_neg (by rw [beq_builtin_none]; exact Bool.false_ne_true) (wpAny_bind (wpAny_callSpecialUnlessNone?_slot (name := Str.ofString "__contains__") (SetTR.isSet R) F.slot_set_contains (wpAny_call_entry F.slot_set_contains (SetTR.isSet R) entry_set_contains ?_ (F.args_set_contains_2 _ _))))
  unfold Builtin.«frozenset.__contains__» Builtin.Frozenset.oneOther
  simp only [List.isEmpty_nil, bind_assoc]
  unfold Builtin.Frozenset.addrOf Builtin.Frozenset.withSetAsKey setContains
  refine wpAny_bind (wpAny_pure ?_)
  try dsimp only
  refine wpAny_bind (wpAny_pure ?_)
  try dsimp only
  refine wpAny_bind (wpAny_tryCatch (wpAny_holding (wpAny_bind (wpAny_pyHash_tuple (knd := intKind P w) (by show A.units + 1 < cLine; omega) hx ?_))))
  refine wpAny_bind (find_at (s := { s with toks := s.toks + (k.length + 1) }) (t := t) ⟨R.ob, R.rows, R.tab, R.nd, R.tup, R.plain, R.led, R.room, R.few⟩ hx (by show A.units + 1 < cLine; omega) fun r hr => wpAny_pure ?_)
  show wpAny _ _ (ret (Value.bool r.isSome)) _ _ _
  rw [hr]
  exact wpAny_pure ⟨_, rfl, wpAny_truthy_bool h⟩
end
/-- a set of tuples stands at a -/
structure TSet (K : PySem.W.Frag) (P : Program) (w : World) (H : Hp) (a : Addr) (L : List (Addr × List Int)) : Prop where
  top : H a = some (SetTO P w a L)
  row : ∀ p ∈ L, SqT K H p.1 (p.2.map V.int)
section
variable {X : Cx}
theorem TSet.get {pins : List (Addr × Obj)} {σ : L2.St} {H : Hp} {s : Shared} {a : Addr} {L : List (Addr × List Int)} (I : Inv X pins σ H s) (x : TSet X.K X.prog X.w H a L) : ∃ es ep t, SetTR X.prog X.w s.heap a L es ep t :=
  SetT0.full (show SetT0 X.prog X.w s.heap a L from (I.hok a _ x.top).1) fun p hp => I.isT (x.row p hp)
def rInTS (K : PySem.W.Frag) (P : Program) (w : World) (neg : Bool) : V → V → Hp → VK → Prop := fun x y H Q => ∃ (b a : Addr) (k : List Int) (L : List (Addr × List Int)), x = V.ref b ∧ y = V.ref a ∧ SqT K H b (k.map V.int) ∧ TSet K P w H a L ∧ Q (.bl (if neg then !decide (k ∈ L.map (·.2)) else decide (k ∈ L.map (·.2)))) H
theorem op_inTS (hu : X.A.units + 64 < cLine) : OpR X (compareOp .In) (rInTS X.K X.prog X.w false) := by
  intro pins s σ H x y v u Q I rx ry h
  obtain ⟨b, a, k, L, rfl, rfl, hb, T, q⟩ := h
  cases rx
  cases ry
  obtain ⟨es, ep, t, R⟩ := T.get I
  show wpAny _ _ (contains (.ref a) (.ref b) >>= fun c => pure (Value.bool c)) _ _ s
  exact wpAny_bind (holds_T R (I.isT hb) (by omega) (wpAny_pure ⟨.bl _, H, I.tok _, rfl, q⟩))
theorem op_notInTS (hu : X.A.units + 64 < cLine) : OpR X (compareOp .NotIn) (rInTS X.K X.prog X.w true) := by
  intro pins s σ H x y v u Q I rx ry h
  obtain ⟨b, a, k, L, rfl, rfl, hb, T, q⟩ := h
  cases rx
  cases ry
  obtain ⟨es, ep, t, R⟩ := T.get I
  show wpAny _ _ (contains (.ref a) (.ref b) >>= fun c => pure (Value.bool (!c))) _ _ s
  exact wpAny_bind (holds_T R (I.isT hb) (by omega) (wpAny_pure ⟨.bl _, H, I.tok _, rfl, q⟩))
end
end Lk

set_option Elab.async false
set_option linter.all false
set_option maxRecDepth 100000
set_option maxHeartbeats 4000000
/-! sets of tuples of ints: the display of one member, add -/
namespace Lk
open PySem PySem.Spec PyProof.Rows L2
/-- a def whose body asks where its code stands -/
theorem okK {P : Program} {w : World} {K : PySem.W.Frag} {mg : Str → Option Value} {base : Heap} {x qual : Str} {st : Stmt} {f : Addr} {fd : FuncData} {N ps : List Str} {k : Nat} {sp : Sp} (F : Fun K x qual st f fd) (S : FnScope N ps (defScope st)) (len : ∀ vs H Q E, sp vs H Q E → vs.length = ps.length)
    (body : ∀ (cdv : Value) (A : Around) (outer : List Env) (s : Shared) (H : Hp) (vs : List V) (Q : VK) (E : XK), PySem.W.kdsCode K cdv = true → Room k (A.deeper (envOfC qual (defScope st) s.heap.objs.size f cdv)) → sp vs H Q E →
      ∃ t, PSs (cxOf CX0 P w K mg base N qual (defScope st) f cdv A outer s H E).nox (defBody st) t ∧ t { nx := fun _ H' => Q .non H', rt := Q } (start N vs) H) : FnOk P w K mg base CX0 (k + 1) f fd ps sp := by
  obtain ⟨oc, od, kV, doc, pm, an, cdv, ct, osl, rfl, lk, hcd⟩ := F.ex
  refine fn_of lk hcd S len fun A outer s H vs Q E hr hsp => ?_
  obtain ⟨t, h, q⟩ := body cdv A outer s H vs Q E (kdsCode_of hcd) hr hsp
  exact ⟨t, h.nox, q⟩
section
variable {X : Cx}
/-- {x}, x a tuple of ints -/
def tSet1 (K : PySem.W.Frag) (P : Program) (w : World) (te : TE) : TE := fun σ H Q => ∀ a, H a = none → te σ (upd H a (SetTO P w a [])) fun x H1 => ∃ (b : Addr) (k : List Int), x = V.ref b ∧ H1 a = some (SetTO P w a []) ∧ SqT K H1 b (k.map V.int) ∧ Q (.ref a) (upd H1 a (SetTO P w a [(b, k)]))
theorem add_T {pins : List (Addr × Obj)} {σ : L2.St} {H : Hp} {s : Shared} {a b : Addr} {k : List Int} {L : List (Addr × List Int)} {Q : Bool → Shared → Prop} {A : Around} {E : Value → Shared → Prop} (hu : A.units + 8 < cLine) (I : Inv X pins σ H s) (T : TSet X.K X.prog X.w H a L) (hb : SqT X.K H b (k.map V.int)) (few : L.length + 1 < 64)
    (h : ∀ (c : Bool) (s' : Shared) (L' : List (Addr × List Int)), Inv X pins σ (upd H a (SetTO X.prog X.w a L')) s' → (k ∈ L.map (·.2) → L' = L) → (k ∉ L.map (·.2) → L'.Perm ((b, k) :: L)) → Q c s') : wpAny (model X.prog X.w) A (setAdd a (.ref b)) Q E s := by
  obtain ⟨es, ep, t, R⟩ := T.get I
  unfold setAdd
  refine wpAny_holding (wpAny_bind (wpAny_pyHash_tuple (knd := intKind X.prog X.w) (by omega) (I.isT hb) ?_))
  refine add_at (s := { s with toks := s.toks + (k.length + 1) }) (t := t) ⟨R.ob, R.rows, R.tab, R.nd, R.tup, R.plain, R.led, R.room, R.few⟩ (I.isT hb) (by omega) few fun c h' L' es' ep' t' sb R' c1 c2 => ?_
  obtain ⟨o, ho, _⟩ := R'.ob
  exact h c _ L' (I.write (e := a) (t' := s.toks + (k.length + 1)) (by rw [T.top]; trivial) (.inl rfl) (fun d u hd e => (sb.2 d hd).trans e) ⟨o, ho⟩ (setTO_new R'.t0)) c1 c2
theorem pe_set1 {e : Expr} {te : TE} {pos : Pos} (hu : X.A.units + 64 < cLine) (hcd : PySem.W.kdsCode X.K X.env.code = true) (he : PE X e te) (hp : [e].all PySem.W.kdsPlain = true := by rfl) : PE X (.Set [e] 0 pos) (tSet1 X.K X.prog X.w te) := by
  refine ⟨fun pins s σ H Q I h => ?_⟩
  rw [arm_eval_Set]
  refine wpAny_bind (wpAny_standAt (wpAny_bind (PySem.W.kds_main I.kIn hcd fun src => ?_)))
  rw [PySem.W.kds_star [e] hp, List.map_map]
  unfold setDisplay
  rw [show displayRoad 0 [e] = DisplayRoad.oneByOne from rfl]
  try dsimp only
  refine wp_if_neg (by decide) ?_
  try refine wpAny_bind (wpAny_pure ?_)
  have hn : H s.heap.objs.size = none := I.hok.fresh (Nat.le_refl _)
  refine wpAny_bind (wpAny_newSet_raw fun led hl => ?_)
  subst hl
  have I1 := I.laid (a := s.heap.objs.size) (o := SetTO X.prog X.w s.heap.objs.size []) (h' := s.heap.push { cls := .type "set", dict := none, data := .set #[] 0 (.fresh 0 0 (!X.w.params.followText "set-order")) }) (t' := s.toks) (fun _ _ q => Heap.get?_push_of_some _ q) (Nat.le_refl _) (setTO_new (setTR_fresh (P := X.prog) (w := X.w) (Heap.get?_push_size _ rfl)).t0)
  have hr := he.run pins _ σ _ _ I1 (h _ hn)
  rw [show evalEach [e] X.env = [eval e X.env] by rw [arm_evalEach_cons] <;> rfl]
  simp only [List.map_cons, List.map_nil, Function.comp, List.length_cons, List.length_nil, List.findIdx?_cons, List.findIdx?_nil]
  simp
  simp only [map_eq_pure_bind]
  refine wpAny_bind (wpAny_holding (wpAny_bind ?_))
  show wpAny _ _ ((eval e X.env >>= fun v => standAt pos >>= fun _ => pure v) >>= fun v => holding [v] (evalAll []) >>= fun r => pure (v :: r)) _ _ _
  refine wpAny_bind (wpAny_bind (thn hr fun u s1 ⟨x, H1, I2, rx, b, k, ex, hs, hb, q⟩ => ?_))
  subst ex
  cases rx
  refine wpAny_bind (wpAny_standAt (wpAny_pure (wpAny_bind (wpAny_holding (wpAny_pure (wpAny_pure (wpAny_holding ?_)))))))
  simp only [List.foldlM_cons, List.foldlM_nil]
  refine wpAny_bind (wpAny_bind (add_T (A := X.A) (by omega) I2 (L := []) ⟨hs, fun p hp => (by cases hp)⟩ hb (show 0 + 1 < 64 by decide) fun c s2 L' I3 _ c2 => wpAny_pure (wpAny_pure (wpAny_pure ?_))))
  have e1 : L' = [(b, k)] := List.perm_singleton.mp (c2 (fun z => by cases z))
  subst e1
  exact ⟨.ref s.heap.objs.size, _, I3, rfl, q⟩
end
end Lk

set_option Elab.async false
set_option linter.all false
set_option maxRecDepth 100000
set_option maxHeartbeats 4000000
/-! seen.add(t) over a set of tuples of ints -/
namespace Lk
open PySem PySem.Spec PyProof.Rows L2
def rAddTS (K : PySem.W.Frag) (P : Program) (w : World) : V → List V → Hp → VK → Prop := fun x xs H Q => ∃ (a b : Addr) (k : List Int) (L : List (Addr × List Int)), x = V.ref a ∧ xs = [V.ref b] ∧ SqT K H b (k.map V.int) ∧ TSet K P w H a L ∧ L.length + 1 < 64 ∧
  ∀ L' : List (Addr × List Int), (k ∈ L.map (·.2) → L' = L) → (k ∉ L.map (·.2) → L'.Perm ((b, k) :: L)) → Q .non (upd H a (SetTO P w a L'))
def tAddTS (K : PySem.W.Frag) (P : Program) (w : World) (to : TE) (t : TA) : TE := fun σ H Q => to σ H fun x H1 => (∃ a L, x = V.ref a ∧ TSet K P w H1 a L) ∧ t σ H1 fun xs H2 => rAddTS K P w x xs H2 Q
section
variable {X : Cx} {o e : Expr} {es : List Expr} {to : TE} {t : TA} {apos cpos : Pos}
theorem mt_addTS (hu : X.A.units + 64 < cLine) : MtR X "set.add" (rAddTS X.K X.prog X.w) := by
  intro pins s σ H x xs v us Q I rx rxs h
  obtain ⟨a, b, k, L, rfl, rfl, hb, T, few, q⟩ := h
  cases rx
  obtain ⟨u, rfl, ru⟩ := Vals.one rxs
  cases ru
  obtain ⟨es, ep, tb, R⟩ := T.get I
  refine wpAny_call_entry F.slot_set_add (SetTR.isSet R) F.entry_set_add ?_ (F.args_set_add_2 _ _)
  unfold Builtin.«set.add» Builtin.Frozenset.oneOther
  simp only [List.isEmpty_nil, bind_assoc]
  unfold Builtin.Frozenset.addrOf
  refine wpAny_bind (wpAny_pure ?_)
  try dsimp only
  refine wpAny_bind (wpAny_pure ?_)
  try dsimp only
  refine wpAny_bind (add_T (by show X.A.units + 1 + 8 < cLine; omega) I T hb few fun c s2 L' I2 c1 c2 => ?_)
  show wpAny _ _ (ret Value.none) _ _ _
  exact wpAny_pure ⟨_, rfl, .non, _, I2, rfl, q L' c1 c2⟩
theorem pe_addTS (hu : X.A.units + 64 < cLine) (ho : PE X o to) (ha : PA X (e :: es) t) (h1 : attributeBase o "add" X.env (eval o X.env) = eval o X.env := by rfl)
    (h2 : ((backTo cpos (starEach (e :: es) X.env)).all (fun x => !x.1) && (backToKw cpos (keywordEach [] X.env)).all (fun x => x.1.isSome) && decide ((e :: es).length + ([] : List Keyword).length + (if ([] : List Keyword).isEmpty then 0 else 1) < 30)) = true := by rfl)
    (h3 : (apos.endLine == cpos.line) = true := by rfl) (h4 : starEach (e :: es) X.env = (false, eval e X.env) :: starEach es X.env := by rfl) (h5 : (backTo cpos (starEach es X.env)).any (·.1) = false := by rfl) : PE X (.Call (.Attribute o "add" apos) (e :: es) [] cpos) (tAddTS X.K X.prog X.w to t) := by
  refine ⟨fun pins s σ H Q I h => wpAny_Call_method_late h1 h2 h3 rfl (thn (ho.run pins s σ H _ I h) fun v s1 ⟨x, H1, I1, rx, ⟨a, L, ex, T⟩, q1⟩ => ?_)⟩
  subst ex
  obtain ⟨es', ep, tb, R⟩ := T.get I1
  cases rx
  refine ⟨"set", "set.add", F.plainAttrs_set, F.slot_set_add, F.type_set_add, SetTR.isSet R, SetTR.bare R, ?_⟩
  have A := ha.run cpos pins s1 σ H1 _ I1 q1
  rw [h4] at A ⊢
  exact Calls.callWith_builtin (by show (false || (backTo cpos (starEach es X.env)).any (·.1)) = false; rw [h5] <;> rfl) (Calls.evalArgs_plain (thn A fun us s2 ⟨vs, H2, I2, r2, q2⟩ => mt_addTS hu pins s2 σ H2 (.ref a) vs (.ref a) us Q I2 rfl r2 q2))
end
end Lk

set_option Elab.async false
set_option linter.all false
set_option maxRecDepth 100000
set_option maxHeartbeats 8000000
namespace Lk
open PySem L2
abbrev s_climbs : Stmt := top 25
abbrev N_climbs : List Str := ["machine", "each", "start", "found", "seen", "waiting", "behind", "done", "ahead"]
abbrev P_climbs : List Str := ["machine"]
theorem sc_climbs : FnScope N_climbs P_climbs (defScope s_climbs) := ⟨rfl, rfl, rfl, by decide +kernel, rfl, by decide +kernel, by decide +kernel⟩
abbrev Clm := List Int × Addr × List (Addr × List Int)
def kvC (e : Clm) : List Key × V := (e.1.map Sum.inl, V.ref e.2.1)
structure ClimbAt (H : Hp) (d : Addr) (es : List Clm) : Prop where
  top : H d = some (.dT (es.map kvC))
  val : ∀ e ∈ es, H e.2.1 = some (.tup (e.2.2.map fun t => V.ref t.1))
  row : ∀ e ∈ es, ∀ t ∈ e.2.2, H t.1 = some (.tup (t.2.map V.int))
theorem ClimbAt.same {H H' : Hp} {d : Addr} {es : List Clm} (x : ClimbAt H d es) (S : Same H H') : ClimbAt H' d es := ⟨S _ _ x.top, fun e he => S _ _ (x.val e he), fun e he t ht => S _ _ (x.row e he t ht)⟩
structure Clms (rs : List (List Int)) (A : Nat) (es : List Clm) : Prop where
  ker : ∀ e ∈ es, ∃ ns, InA A ns ∧ e.1 = kerR rs ns
  nd : (es.map (·.1)).Nodup
  all : ∀ ns, InA A ns → kerR rs ns ∈ es.map (·.1)
  ups : ∀ e ∈ es, e.2.2.map (·.2) = (List.range A).map fun (c : Nat) => kerG (pull rs e.1 (c : Int))
theorem val_noneC {k : List Int} : ∀ {es : List Clm}, k ∉ es.map (·.1) → valV (es.map kvC) (k.map Sum.inl) = none
  | [], _ => rfl
  | e :: es, h => by
    rw [List.map_cons, List.mem_cons, not_or] at h
    rw [List.map_cons, valV_neg (fun z => h.1 (inl_inj z).symm), val_noneC h.2]
def spClimbs (CM : Addr) : Sp := fun vs H Q _ => ∃ (m : Addr) (A : Int) (us : List (Addr × List Int)), vs = [.ref m] ∧ MachAt CM H m A us ∧ MOk A us ∧ us.length ≤ 5 ∧
  ∀ H' d es, Same H H' → ClimbAt H' d es → Clms (rsOf us) A.toNat es → es.length ≤ 52 → Q (.ref d) H'
structure ClmL (K : PySem.W.Frag) (P : Program) (w : World) (H0 U : Hp) (rs : List (List Int)) (A : Nat) (d sa wa : Addr) (es : List Clm) (L wt : List (Addr × List Int)) : Prop where
  S : Same H0 U
  d0 : H0 d = none
  s0 : H0 sa = none
  w0 : H0 wa = none
  C : ClimbAt U d es
  Sn : TSet K P w U sa L
  W : ListT U wa wt
  ker : ∀ p ∈ L, ∃ ns, InA A ns ∧ p.2 = kerR rs ns
  nd : (L.map (·.2)).Nodup
  part : (es.map (·.1) ++ wt.map (·.2)).Perm (L.map (·.2))
  ups : ∀ e ∈ es, e.2.2.map (·.2) = (List.range A).map fun (c : Nat) => kerG (pull rs e.1 (c : Int))
  idle : kerR rs [] ∈ L.map (·.2)
section
variable {K : PySem.W.Frag} {P : Program} {w : World} {H0 U U' : Hp} {rs : List (List Int)} {A : Nat} {d sa wa : Addr} {es : List Clm} {L wt : List (Addr × List Int)}
theorem TSet.same (x : TSet K P w U sa L) (S : Same U U') : TSet K P w U' sa L := ⟨S _ _ x.top, fun p hp => sameT S (x.row p hp)⟩
theorem ClmL.same (x : ClmL K P w H0 U rs A d sa wa es L wt) (S : Same U U') : ClmL K P w H0 U' rs A d sa wa es L wt :=
  ⟨x.S.trans S, x.d0, x.s0, x.w0, x.C.same S, x.Sn.same S, x.W.same S, x.ker, x.nd, x.part, x.ups, x.idle⟩
/-- what stands is not one of the three that are written -/
structure Other (o : HO) : Prop where
  a : ∀ v, o ≠ .dT v
  b : ∀ f, o ≠ .ext f
  c : ∀ v, o ≠ .lst v
theorem tup_other (ys : List V) : Other (.tup ys) := ⟨(fun _ z => nomatch z), (fun _ z => nomatch z), (fun _ z => nomatch z)⟩
theorem ClmL.keep (x : ClmL K P w H0 U rs A d sa wa es L wt) {a : Addr} {o : HO} (h : U a = some o) (n : Other o) : a ≠ d ∧ a ≠ sa ∧ a ≠ wa :=
  ⟨ne_of h x.C.top (n.a _), ne_of h x.Sn.top (n.b _), ne_of h x.W.top (n.c _)⟩
theorem ClmL.apart (x : ClmL K P w H0 U rs A d sa wa es L wt) : d ≠ sa ∧ d ≠ wa ∧ sa ≠ wa :=
  ⟨ne_of x.C.top x.Sn.top (fun z => nomatch z), ne_of x.C.top x.W.top (fun z => nomatch z), ne_of x.Sn.top x.W.top (fun z => nomatch z)⟩
theorem sq_upd {a : Addr} {o o' : HO} {b : Addr} {xs : List V} (h : SqT K U b xs) (ha : U a = some o) (n : Other o → False) : SqT K (upd U a o') b xs := by
  have ne : ∀ {u : HO}, U b = some u → Other u → b ≠ a := fun h1 h2 e => n (by rw [e, ha] at h1; rw [Option.some.inj h1]; exact h2)
  rcases h with (h | ⟨ob, h⟩) | h
  · exact .inl (.inl ((upd_ne (ne h (tup_other _))).trans h))
  · exact .inl (.inr ⟨ob, (upd_ne (ne h ⟨(fun _ z => nomatch z), (fun _ z => nomatch z), (fun _ z => nomatch z)⟩)).trans h⟩)
  · exact .inr h
theorem ClmL.add (x : ClmL K P w H0 U rs A d sa wa es L wt) {b : Addr × List Int} {L' : List (Addr × List Int)} (hb : U b.1 = some (.tup (b.2.map V.int))) (hk : ∃ ns, InA A ns ∧ b.2 = kerR rs ns) (hn : b.2 ∉ L.map (·.2)) (pm : L'.Perm (b :: L)) :
    ClmL K P w H0 (upd (upd U sa (SetTO P w sa L')) wa (.lst ((wt.map fun t => V.ref t.1) ++ [V.ref b.1]))) rs A d sa wa es L' (wt ++ [b]) := by
  obtain ⟨n1, n2, n3⟩ := x.apart
  have kt : ∀ {a : Addr} {ys : List V}, U a = some (.tup ys) → upd (upd U sa (SetTO P w sa L')) wa (.lst ((wt.map fun t => V.ref t.1) ++ [V.ref b.1])) a = some (.tup ys) := fun {a ys} h => by
    obtain ⟨_, m2, m3⟩ := x.keep h (tup_other ys)
    rw [upd_ne m3, upd_ne m2]
    exact h
  have pk := pm.map (·.2)
  have rowL : ∀ p ∈ L, SqT K (upd (upd U sa (SetTO P w sa L')) wa (.lst ((wt.map fun t => V.ref t.1) ++ [V.ref b.1]))) p.1 (p.2.map V.int) := fun p hp =>
    sq_upd (sq_upd (x.Sn.row p hp) x.Sn.top fun z => z.b _ rfl) (show upd U sa (SetTO P w sa L') wa = _ from (upd_ne n3.symm).trans x.W.top) fun z => z.c _ rfl
  refine ⟨(((KP.same (S := fun _ => False) x.S).mut x.s0).mut x.w0).toSame, x.d0, x.s0, x.w0, ⟨?_, fun e he => kt (x.C.val e he), fun e he t ht => kt (x.C.row e he t ht)⟩, ⟨?_, fun p hp => ?_⟩, ⟨?_, fun t ht => ?_⟩, fun p hp => ?_, ?_, ?_, x.ups, ?_⟩
  · rw [upd_ne n2, upd_ne n1]
    exact x.C.top
  · rw [upd_ne n3, upd_same]
  · rcases List.mem_cons.mp (pm.mem_iff.mp hp) with q | q
    · rw [q]
      exact SqT.of (kt hb)
    · exact rowL p q
  · rw [upd_same, List.map_append]
    rfl
  · rcases List.mem_append.mp ht with q | q
    · exact kt (x.W.row t q)
    · rw [List.mem_singleton.mp q]
      exact kt hb
  · rcases List.mem_cons.mp (pm.mem_iff.mp hp) with q | q
    · rw [q]
      exact hk
    · exact x.ker p q
  · rw [pk.nodup_iff, List.map_cons, List.nodup_cons]
    exact ⟨hn, x.nd⟩
  · rw [List.map_append]
    refine List.Perm.trans ?_ pk.symm
    rw [← List.append_assoc]
    exact (List.perm_append_comm).trans (x.part.cons b.2)
  · exact pk.mem_iff.mpr (List.mem_cons_of_mem _ x.idle)
end
theorem fm_all {β : Type} (f : Nat → Option β) (g : Nat → β) : ∀ l : List Nat, (∀ i ∈ l, f i = some (g i)) → l.filterMap f = l.map g
  | [], _ => rfl
  | i :: l, h => by
    rw [List.filterMap_cons, h i List.mem_cons_self, List.map_cons, fm_all f g l fun j hj => h j (List.mem_cons_of_mem _ hj)]
theorem heapEq {F : Hp → Prop} {H H' : Hp} (e : H = H') (h : F H') : F H := by
  rw [e]
  exact h
section
variable {P : Program} {w : World} {K : PySem.W.Frag} {mg : Str → Option Value} {base : Heap} {CM : Addr}
theorem ok_climbs {f fe fr fa : Addr} {fd fde fdr fda : FuncData} (A0 : Df K mg "climbs" s_climbs f fd P_climbs) (d_effects : Df K mg "effects" s_effects fe fde P_effects) (d_resting : Df K mg "resting" s_resting fr fdr P_resting) (d_kernel_ahead : Df K mg "kernel_ahead" s_kernel_ahead fa fda P_kernel_ahead)
    (G_kernel_ahead : FnOk P w K mg base CX0 2 fa fda P_kernel_ahead spAhead) (T : Txt mg) (TC : TxC K CM) : FnOk P w K mg base CX0 3 f fd P_climbs (spClimbs CM) := by
  have G_effects : FnOk P w K mg base CX0 1 fe fde P_effects (spEffects CM) := ok_effects d_effects T TC
  have G_resting : FnOk P w K mg base CX0 1 fr fdr P_resting (spResting CM) := ok_resting d_resting T TC
  refine okK A0.F sc_climbs (fun vs H Q E h => ?_) (fun cdv Ar outer s H vs Q E hcd hr h => ?_)
  · obtain ⟨m, A, us, rfl, _⟩ := h
    rfl
  · obtain ⟨m, A, us, rfl, M, O, hz, k⟩ := h
    have hu : Ar.units + 3 + 64 < cLine := by have := hr.un; simp only [Around.deeper] at this; omega
    have hu1 : Ar.units + 3 + 1 < cLine := by omega
    refine ⟨_, (pss_cons (ps_set (i := 1) sc_climbs.nd rfl (Or.inl rfl) (pe_call G_effects (hr.mono (by decide)) rfl d_effects.g d_effects.F.kp d_effects.b .nil pass0 (pa_cons (pv 0) pa_nil)))
    (pss_cons (ps_set (i := 2) sc_climbs.nd rfl (Or.inl rfl) (pe_call G_resting (hr.mono (by decide)) rfl d_resting.g d_resting.F.kp d_resting.b .nil pass0 (pa_cons (pv 0) pa_nil)))
    (pss_cons (ps_set (i := 3) sc_climbs.nd rfl (Or.inl rfl) pe_dnewT)
    (pss_cons (ps_set (i := 4) sc_climbs.nd rfl (Or.inl rfl) (pe_set1 hu hcd (pv 2)))
    (pss_cons (ps_set (i := 5) sc_climbs.nd rfl (Or.inl rfl) (pe_lst (pa_cons (pv 2) pa_nil)))
    (pss_cons (ps_while PassesOwn.never (pt_truth (pv 5) (fun _ => rfl))
      (pss_cons (ps_set (i := 6) sc_climbs.nd rfl (Or.inr rfl) (pe_bm0 PySem.F.plainAttrs_list PySem.F.slot_list_pop PySem.F.type_list_pop mt_pop (pv 5)))
      (pss_cons (ps_dput hu1 (pv 3) (pv 6) (pe_tupleOf (by rfl) T.tuple (pe_lc (own := [("done", 7)]) (g := gName 7) (tt := tYes) (te := tCall spAhead [] E0 (tCons (tVar 7) (tCons (tVar 6) tNil))) rfl sc_climbs.nd (pi_tup (pv 1)) (blkOk_by (N := N_climbs) (sc := defScope s_climbs) (by decide +kernel)) (fun _ _ _ _ _ => (pg_name (i := 7) sc_climbs.nd rfl (Or.inl rfl))) (fun _ _ _ _ _ => pts_nil) (fun _ _ _ _ _ => (pe_call G_kernel_ahead (hr.mono (by decide)) rfl d_kernel_ahead.g d_kernel_ahead.F.kp d_kernel_ahead.b .nil pass0 (pa_cons (pv 7) (pa_cons (pv 6) pa_nil)))))) rfl)
      (pss_one (ps_for PassesOwn.never rfl (pi_tup (pe_dget hu1 (pv 3) (pv 6) (fun _ _ => rfl))) (pg_name (i := 8) sc_climbs.nd rfl (Or.inl rfl))
        (pss_one (ps_if (pt_cmpR (op_notInTS hu) (pv 8) (pv 4) rfl) (pss_cons (ps_expr (pe_addTS hu (pv 4) (pa_cons (pv 8) pa_nil)))
          (pss_one (ps_expr (pe_bm PySem.F.plainAttrs_list PySem.F.slot_list_append PySem.F.type_list_append mt_append (pv 5) (pa_cons (pv 8) pa_nil))))) pss_nil)))))))
    (pss_one (ps_ret (pv 3))))))))), ?_⟩
    have lr : (rsOf us).length = us.length := rsOf_len us
    have O' := O.rs
    have a1 := O.a1
    have a0 := O.a0
    refine ⟨_, rfl, m, A, us, rfl, M, O, fun H1 et ec S1 het ecl ecr ecc => ?_⟩
    refine ⟨_, rfl, m, A, us, rfl, M.same S1, by omega, fun st hst => ?_⟩
    have hid : rng us.length = kerR (rsOf us) [] := by
      rw [kerR_nil, lr]
      rfl
    rw [hid]
    obtain ⟨H2, eH2⟩ : ∃ H2, H2 = upd H1 st (HO.tup ((kerR (rsOf us) []).map V.int)) := ⟨_, rfl⟩
    have S2 : Same H H2 := by rw [eH2]; exact S1.trans (Same.new hst)
    have gst : H2 st = some (.tup ((kerR (rsOf us) []).map V.int)) := by rw [eH2]; exact upd_same
    have get : H2 et = some (.tup (ec.map fun u => V.ref u.1)) := by rw [eH2]; exact nk het hst
    have gec : ∀ u ∈ ec, H2 u.1 = some (.tup (u.2.map V.int)) := fun u hu => by rw [eH2]; exact nk (ecr u hu) hst
    rw [← eH2]
    clear eH2 hst het ecr
    refine fun d hd sa hsa => ⟨_, rfl, st, kerR (rsOf us) [], rfl, upd_same, SqT.of (nk (nk gst hd) hsa), ?_⟩
    refine ⟨_, rfl, by show 1 ≤ sizeLine; decide, fun wa hwa => ?_⟩
    have nds : d ≠ sa := ne_of_none upd_same hsa
    have sa0 : H2 sa = none := ff hd hsa
    have hwa : upd (upd (upd H2 d (HO.dT [])) sa (SetTO P w sa [])) sa (SetTO P w sa [(st, kerR (rsOf us) [])]) wa = none := hwa
    have hsa : upd H2 d (HO.dT []) sa = none := hsa
    have wsa : wa ≠ sa := fun e => by rw [e, upd_same] at hwa; cases hwa
    have hwa1 : upd (upd H2 d (HO.dT [])) sa (SetTO P w sa []) wa = none := by rw [upd_ne wsa] at hwa; exact hwa
    have wa0 : H2 wa = none := ff hd (ff hsa hwa1)
    obtain ⟨H3, eH3⟩ : ∃ H3, H3 = upd (upd (upd (upd H2 d (HO.dT [])) sa (SetTO P w sa [])) sa (SetTO P w sa [(st, kerR (rsOf us) [])])) wa (HO.lst [V.ref st]) := ⟨_, rfl⟩
    have S23 : Same H2 H3 := by
      rw [eH3]
      exact ((KP.mut (KP.mut (KP.mut (KP.new (S := fun _ => False) hd) sa0) sa0) wa0)).toSame
    have gd : H3 d = some (.dT []) := by
      rw [eH3, upd_ne (ne_of_none (show upd (upd (upd H2 d (HO.dT [])) sa (SetTO P w sa [])) sa (SetTO P w sa [(st, kerR (rsOf us) [])]) d = some (.dT []) by rw [upd_ne nds, upd_ne nds, upd_same]) hwa), upd_ne nds, upd_ne nds, upd_same]
    have gsa : H3 sa = some (SetTO P w sa [(st, kerR (rsOf us) [])]) := by rw [eH3, upd_ne wsa.symm, upd_same]
    have gwa : H3 wa = some (.lst [V.ref st]) := by rw [eH3, upd_same]
    have X0 : ClmL K P w H2 H3 (rsOf us) A.toNat d sa wa [] [(st, kerR (rsOf us) [])] [(st, kerR (rsOf us) [])] :=
      ⟨S23, hd, sa0, wa0, ⟨gd, fun e he => (by cases he), fun e he => (by cases he)⟩, ⟨gsa, fun p hp => by rw [List.mem_singleton.mp hp]; exact SqT.of (S23 _ _ gst)⟩, ⟨gwa, fun p hp => by rw [List.mem_singleton.mp hp]; exact S23 _ _ gst⟩, fun p hp => ⟨[], fun c hc => (by cases hc), by rw [List.mem_singleton.mp hp]⟩, by simp, .refl _, fun e he => (by cases he), by simp⟩
    refine heapEq (F := fun U => gName 5 (V.ref wa) _ U _) eH3.symm ?_
    clear eH3 hwa hwa1
    refine normG (σ' := [some (.ref m), some (.ref et), some (.ref st), some (.ref d), some (.ref sa), none, none, none, none]) rfl ?_
    refine ⟨fun μ σ U => ∃ (es : List Clm) (L wt : List (Addr × List Int)) (v6 v8 : Option V), σ = [some (.ref m), some (.ref et), some (.ref st), some (.ref d), some (.ref sa), some (.ref wa), v6, none, v8] ∧ ClmL K P w H2 U (rsOf us) A.toNat d sa wa es L wt ∧ (∀ e ∈ es, ∀ t ∈ e.2.2, t.2 ∈ L.map (·.2)) ∧ μ = 52 - es.length,
      ⟨_, [], _, _, none, none, rfl, X0, fun e he => (by cases he), rfl⟩, ?_⟩
    clear X0 gd gsa gwa S23
    rintro μ σ U ⟨es, L, wt, v6, v8, rfl, X, hup, rfl⟩
    have lfew : L.length ≤ 52 := kers_few (rs := rsOf us) (A := A.toNat) (by rw [lr]; exact hz) X.ker X.nd
    have plen := X.part.length_eq
    rw [List.length_append, List.length_map, List.length_map, List.length_map] at plen
    by_cases hw : wt = []
    · subst hw
      have pt : (es.map (·.1)).Perm (L.map (·.2)) := by
        have := X.part
        simpa using this
      refine ⟨_, rfl, false, .inl ⟨_, SqL.of X.W.top, rfl⟩, iteF ⟨_, rfl, ?_⟩⟩
      refine k U d es (S2.trans X.S) X.C ⟨fun e he => ?_, pt.nodup_iff.mpr X.nd, fun ns => ?_, X.ups⟩ (by simp at plen; omega)
      · have h1 : e.1 ∈ L.map (·.2) := pt.mem_iff.mp (List.mem_map.mpr ⟨e, he, rfl⟩)
        obtain ⟨p, hp, q⟩ := List.mem_map.mp h1
        obtain ⟨ns, a, b⟩ := X.ker p hp
        exact ⟨ns, a, by rw [← q, b]⟩
      · intro ha
        induction ns with
        | nil => exact pt.mem_iff.mpr X.idle
        | cons c ns ih =>
          have ⟨c0, c1⟩ := ha c List.mem_cons_self
          obtain ⟨e, he, q⟩ := List.mem_map.mp (ih fun z hz => ha z (List.mem_cons_of_mem _ hz))
          rw [← ker_pull O' c0 c1, ← q]
          refine pt.mem_iff.mpr ?_
          have hm : kerG (pull (rsOf us) e.1 c) ∈ e.2.2.map (·.2) := by
            rw [X.ups e he]
            exact List.mem_map.mpr ⟨c.toNat, List.mem_range.mpr (by omega), by rw [Int.toNat_of_nonneg c0]⟩
          obtain ⟨t, ht, q2⟩ := List.mem_map.mp hm
          rw [← q2]
          exact hup e he t ht
    · obtain ⟨ws, t0, rfl⟩ : ∃ ws t0, wt = ws ++ [t0] := ⟨wt.dropLast, wt.getLast hw, (List.dropLast_concat_getLast hw).symm⟩
      refine ⟨_, rfl, true, .inl ⟨_, SqL.of X.W.top, by simp⟩, iteT ⟨fun σ' U => ∃ μ', μ' < 52 - es.length ∧ ∃ (es : List Clm) (L wt : List (Addr × List Int)) (v6 v8 : Option V), σ' = [some (.ref m), some (.ref et), some (.ref st), some (.ref d), some (.ref sa), some (.ref wa), v6, none, v8] ∧ ClmL K P w H2 U (rsOf us) A.toNat d sa wa es L wt ∧ (∀ e ∈ es, ∀ t ∈ e.2.2, t.2 ∈ L.map (·.2)) ∧ μ' = 52 - es.length, fun _ _ h => h, ?_⟩⟩
      refine ⟨_, rfl, .inl ⟨rfl, _, SqL.of X.W.top⟩, wa, _, V.ref t0.1, rfl, rfl, X.W.top, by simp, ?_⟩
      have edl : ((ws ++ [t0]).map fun t => V.ref t.1).dropLast = ws.map fun t => V.ref t.1 := by simp
      rw [edl]
      have ht0 := X.W.row t0 (List.mem_append_right _ List.mem_cons_self)
      have hpart := X.part
      have knew : t0.2 ∉ es.map (·.1) := fun hm => by
        have hnd := hpart.nodup_iff.mpr X.nd
        have := (List.nodup_append.mp hnd).2.2 _ hm t0.2 (by simp)
        exact this rfl
      have hkey : t0.2 ∈ L.map (·.2) := hpart.mem_iff.mp (by simp)
      obtain ⟨p0, hp0, hpe⟩ := List.mem_map.mp hkey
      obtain ⟨ns0, ha0, hk0⟩ := X.ker p0 hp0
      rw [hpe] at hk0
      obtain ⟨n1, n2, n3⟩ := X.apart
      have keep1 : ∀ {a : Addr} {o : HO}, U a = some o → Other o → upd U wa (HO.lst (ws.map fun t => V.ref t.1)) a = some o := fun h no => (upd_ne (X.keep h no).2.2).trans h
      have ht01 := keep1 ht0 (tup_other _)
      have het1 := keep1 (X.S _ _ get) (tup_other _)
      have hec1 : ∀ u ∈ ec, upd U wa (HO.lst (ws.map fun t => V.ref t.1)) u.1 = some (.tup (u.2.map V.int)) := fun u hu => keep1 (X.S _ _ (gec u hu)) (tup_other _)
      have X1 : ClmL K P w H2 (upd U wa (HO.lst (ws.map fun t => V.ref t.1))) (rsOf us) A.toNat d sa wa es (L.filter fun p => decide (p.2 ≠ t0.2)) ws → True := fun _ => True.intro
      have S21 : Same H2 (upd U wa (HO.lst (ws.map fun t => V.ref t.1))) := ((KP.same (S := fun _ => False) X.S).mut X.w0).toSame
      have C1 : ClimbAt (upd U wa (HO.lst (ws.map fun t => V.ref t.1))) d es := ⟨(upd_ne n2).trans X.C.top, fun e he => keep1 (X.C.val e he) (tup_other _), fun e he t ht => keep1 (X.C.row e he t ht) (tup_other _)⟩
      have T1 : TSet K P w (upd U wa (HO.lst (ws.map fun t => V.ref t.1))) sa L := ⟨(upd_ne n3).trans X.Sn.top, fun p hp => sq_upd (X.Sn.row p hp) X.W.top fun z => z.c _ rfl⟩
      have L1 : ListT (upd U wa (HO.lst (ws.map fun t => V.ref t.1))) wa ws := ⟨upd_same, fun t ht => keep1 (X.W.row t (List.mem_append_left _ ht)) (tup_other _)⟩
      obtain ⟨U1, eU1⟩ : ∃ U1, U1 = upd U wa (HO.lst (ws.map fun t => V.ref t.1)) := ⟨_, rfl⟩
      rw [← eU1] at ht01 het1 hec1 S21 C1 T1 L1 ⊢
      clear eU1 X1 keep1
      have kl : t0.2.length = us.length := by rw [hk0, kerR_len, lr]
      have lec : ec.length = A.toNat := by omega
      refine ⟨_, rfl, et, rfl, ⟨_, SqT.of het1⟩, fun D hD => ?_⟩
      have wk := walk_tup (K := K) (a := et) (xs := ec.map fun u : Addr × List Int => V.ref u.1)
      rw [List.length_map] at wk
      refine lcWT wk (fun i => (ec[i]?).map fun u => kerG (pull (rsOf us) t0.2 (i : Int))) hD (by omega) (fun H' S => SqT.of (S _ _ het1)) ?_ ?_
      · rintro i x V1' V1 hi SV ⟨rfl, hx⟩ N Q' _ kQ
        have hx : (ec.map fun u : Addr × List Int => V.ref u.1)[i]? = some x := hx
        have hci := List.getElem?_eq_getElem hi
        rw [List.getElem?_map, hci] at hx
        obtain rfl := Option.some.inj hx
        obtain ⟨u, eu⟩ : ∃ u, u = ec[i] := ⟨_, rfl⟩
        rw [← eu] at hci ⊢
        have hum := List.mem_of_getElem? hci
        have hcol := ecc i u hci
        have ep : atL u.2 t0.2 = pull (rsOf us) t0.2 (i : Int) := by
          unfold atL pull
          rw [hcol]
          unfold col
          rw [List.map_map, Int.toNat_natCast]
          rfl
        refine ⟨wipe1 _ _ _, iteT (B := N V1) ⟨_, rfl, _, rfl, u.1, t0.1, u.2, t0.2, rfl, SV _ _ (hec1 u hum), SV _ _ ht01, by rw [hcol]; unfold col; rw [List.length_map, lr]; omega, fun z hz => ?_, fun V2 q S2' q0 hq => ?_⟩⟩
        · rw [hcol] at hz
          unfold col at hz
          obtain ⟨r, hr, rfl⟩ := List.mem_map.mp hz
          obtain ⟨r1, r2⟩ := O'.row r hr
          have := r2 (r.getD i 0) (by rw [List.getD_eq_getElem?_getD, List.getElem?_eq_getElem (show i < r.length by omega)]; exact List.getElem_mem _)
          rw [lr] at this
          omega
        · refine kQ (kerG (pull (rsOf us) t0.2 (i : Int))) ?_ V2 q S2' ?_
          · rw [hci]
            rfl
          · rw [← ep]
            exact hq
      intro U3 bs S3 B3 eb
      have eb2 : bs.map (·.2) = (List.range A.toNat).map fun (c : Nat) => kerG (pull (rsOf us) t0.2 (c : Int)) := by
        rw [eb, lec]
        refine fm_all _ _ _ fun i hi => ?_
        have := List.mem_range.mp hi
        rw [List.getElem?_eq_getElem (show i < ec.length by omega)]
        rfl
      refine .inl ⟨D, _, rfl, SqL.of B3.top, fun bt hbt => ?_⟩
      have S14 : Same U1 (upd U3 bt (HO.tup (bs.map fun t => V.ref t.1))) := S3.trans (Same.new hbt)
      have gbt : upd U3 bt (HO.tup (bs.map fun t => V.ref t.1)) bt = _ := upd_same
      have gbs : ∀ t ∈ bs, upd U3 bt (HO.tup (bs.map fun t => V.ref t.1)) t.1 = some (.tup (t.2.map V.int)) := fun t ht => nk (B3.row t ht) hbt
      obtain ⟨U4, eU4⟩ : ∃ U4, U4 = upd U3 bt (HO.tup (bs.map fun t => V.ref t.1)) := ⟨_, rfl⟩
      rw [← eU4] at S14 gbt gbs ⊢
      clear eU4 hbt
      have C4 := C1.same S14
      have T4 := T1.same S14
      have L4 := L1.same S14
      have ht4 := S14 _ _ ht01
      have kyn : (t0.2.map Sum.inl : List Key).map kV = t0.2.map V.int := kv_ints _
      have efew : es.length ≤ 51 := by
        rw [List.length_append, List.length_singleton] at plen
        omega
      refine ⟨_, rfl, _, rfl, d, _, rfl, DPut.t (k := t0.2.map Sum.inl) C4.top (by rw [kyn]; exact ht4) (Nat.lt_of_le_of_lt (show _ ≤ 52 by rw [List.length_map]; omega) (by decide)), ?_⟩
      rw [putK_new _ (val_noneC knew)]
      have nod : ∀ {a : Addr} {o : HO}, U4 a = some o → (∀ v, o ≠ .dT v) → upd U4 d (.dT (es.map kvC ++ [(t0.2.map Sum.inl, V.ref bt)])) a = some o := fun h no => (upd_ne (ne_of h C4.top (no _))).trans h
      have X5 : ClmL K P w H2 (upd U4 d (.dT (es.map kvC ++ [(t0.2.map Sum.inl, V.ref bt)]))) (rsOf us) A.toNat d sa wa (es ++ [(t0.2, bt, bs)]) L ws := by
        refine ⟨((KP.same (S := fun _ => False) (S21.trans S14)).mut X.d0).toSame, X.d0, X.s0, X.w0, ⟨?_, fun e he => ?_, fun e he t ht => ?_⟩, ⟨nod T4.top (fun _ z => nomatch z), fun p hp => sq_upd (T4.row p hp) C4.top fun z => z.a _ rfl⟩, ⟨nod L4.top (fun _ z => nomatch z), fun t ht => nod (L4.row t ht) (fun _ z => nomatch z)⟩, X.ker, X.nd, ?_, fun e he => ?_, X.idle⟩
        · rw [upd_same, List.map_append]
          rfl
        · rcases List.mem_append.mp he with q | q
          · exact nod (C4.val e q) (fun _ z => nomatch z)
          · rw [List.mem_singleton.mp q]
            exact nod gbt (fun _ z => nomatch z)
        · rcases List.mem_append.mp he with q | q
          · exact nod (C4.row e q t ht) (fun _ z => nomatch z)
          · rw [List.mem_singleton.mp q] at ht
            exact nod (gbs t ht) (fun _ z => nomatch z)
        · refine List.Perm.trans ?_ hpart
          rw [List.map_append, List.map_append, List.append_assoc]
          exact (List.perm_append_comm).append_left _
        · rcases List.mem_append.mp he with q | q
          · exact X.ups e q
          · rw [List.mem_singleton.mp q]
            exact eb2
      have hg : DGet (upd U4 d (.dT (es.map kvC ++ [(t0.2.map Sum.inl, V.ref bt)]))) d (V.ref t0.1) (some (V.ref bt)) := by
        have e1 : valV (es.map kvC ++ [((t0.2.map Sum.inl : List Key), V.ref bt)]) (t0.2.map Sum.inl) = some (V.ref bt) := by
          rw [valV_snoc _ _ _ _ (val_noneC knew), if_pos rfl]
        rw [← e1]
        exact DGet.t upd_same (by rw [kyn]; exact nod ht4 (fun _ z => nomatch z))
      obtain ⟨U5, eU5⟩ : ∃ U5, U5 = upd U4 d (.dT (es.map kvC ++ [(t0.2.map Sum.inl, V.ref bt)])) := ⟨_, rfl⟩
      rw [← eU5] at X5 hg ⊢
      clear eU5
      have gbt5 := X5.C.val _ (List.mem_append_right _ List.mem_cons_self)
      refine ⟨_, rfl, _, rfl, d, V.ref bt, rfl, hg, bt, rfl, ⟨_, SqT.of gbt5⟩, ?_⟩
      refine for_tup (K := K) (a := bt) (xs := bs.map fun t => V.ref t.1) (fun i σ U => ∃ (L wt : List (Addr × List Int)) (v8 : Option V), σ = [some (.ref m), some (.ref et), some (.ref st), some (.ref d), some (.ref sa), some (.ref wa), some (.ref t0.1), none, v8] ∧ ClmL K P w H2 U (rsOf us) A.toNat d sa wa (es ++ [(t0.2, bt, bs)]) L wt ∧
        (∀ e ∈ es, ∀ t ∈ e.2.2, t.2 ∈ L.map (·.2)) ∧ ∀ j, j < i → ∀ t, bs[j]? = some t → t.2 ∈ L.map (·.2)) ⟨L, ws, v8, rfl, X5, hup, fun j hj => absurd hj (Nat.not_lt_zero j)⟩ (fun i σ U _ h => by obtain ⟨_, _, _, _, X, _⟩ := h; exact SqT.of (X.C.val _ (List.mem_append_right _ List.mem_cons_self))) ?_ ?_
      · rintro i x σ V0 hx ⟨L, wt, v8, rfl, X6, hup6, hj6⟩
        rw [List.getElem?_map] at hx
        obtain ⟨b, hb, hbe⟩ := Option.map_eq_some_iff.mp hx
        subst hbe
        have hbm := List.mem_of_getElem? hb
        have hb6 := X6.C.row _ (List.mem_append_right _ List.mem_cons_self) b hbm
        have nxt : ∀ L' : List (Addr × List Int), (∀ k, k ∈ L.map (·.2) → k ∈ L'.map (·.2)) → b.2 ∈ L'.map (·.2) → (∀ e ∈ es, ∀ t ∈ e.2.2, t.2 ∈ L'.map (·.2)) ∧ ∀ j, j < i + 1 → ∀ t, bs[j]? = some t → t.2 ∈ L'.map (·.2) := fun L' h1 h2 => by
          refine ⟨fun e he t ht => h1 _ (hup6 e he t ht), fun j hj t ht => ?_⟩
          rcases Nat.lt_or_ge j i with q | q
          · exact h1 _ (hj6 j q t ht)
          · have ej : j = i := by omega
            rw [ej, hb] at ht
            obtain rfl := Option.some.inj ht
            exact h2
        refine ⟨_, rfl, _, rfl, b.1, sa, b.2, L, rfl, rfl, SqT.of hb6, X6.Sn, _, rfl, ?_⟩
        rw [if_pos rfl]
        have lf6 : L.length ≤ 52 := kers_few (rs := rsOf us) (A := A.toNat) (by rw [lr]; exact hz) X6.ker X6.nd
        by_cases hin : b.2 ∈ L.map (·.2)
        · rw [decide_eq_true hin]
          exact iteF ⟨L, wt, _, rfl, X6, nxt L (fun _ h => h) hin⟩
        · rw [decide_eq_false hin]
          refine iteT ⟨_, rfl, ⟨sa, L, rfl, X6.Sn⟩, _, rfl, sa, b.1, b.2, L, rfl, rfl, SqT.of hb6, X6.Sn, by omega, fun L' _ c2 => ?_⟩
          have pm : L'.Perm (b :: L) := c2 hin
          have hkb : ∃ ns, InA A.toNat ns ∧ b.2 = kerR (rsOf us) ns := by
            have : b.2 ∈ bs.map (·.2) := List.mem_map.mpr ⟨b, hbm, rfl⟩
            rw [eb2] at this
            obtain ⟨c, hc, e⟩ := List.mem_map.mp this
            have hc := List.mem_range.mp hc
            exact ⟨(c : Int) :: ns0, fun z hz => (List.mem_cons.mp hz).elim (fun q => by rw [q]; omega) (ha0 z), by rw [← e, hk0, ker_pull O' (by omega) (by omega)]⟩
          have X7 := X6.add hb6 hkb hin pm
          obtain ⟨_, _, a3⟩ := X6.apart
          have hw7 : upd V0 sa (SetTO P w sa L') wa = some (.lst (wt.map fun t => V.ref t.1)) := (upd_ne a3.symm).trans X6.W.top
          have wl : wt.length ≤ 52 := by
            have := X6.part.length_eq
            rw [List.length_append, List.length_map, List.length_map, List.length_map] at this
            omega
          have pk := pm.map (·.2)
          exact ⟨_, rfl, .inl ⟨rfl, _, SqL.of hw7⟩, _, rfl, wa, _, _, rfl, rfl, hw7, Nat.lt_of_le_of_lt (show _ ≤ 52 by rw [List.length_map]; exact wl) (by decide), L', _, _, rfl, X7, nxt L' (fun k hk => pk.mem_iff.mpr (List.mem_cons_of_mem _ hk)) (pk.mem_iff.mpr List.mem_cons_self)⟩
      · rintro σ V0 ⟨L, wt, v8, rfl, X6, hup6, hj6⟩
        rw [List.length_map] at hj6
        refine ⟨_, ?_, _, L, wt, _, _, rfl, X6, fun e he t ht => ?_, rfl⟩
        · rw [List.length_append, List.length_singleton]
          omega
        · rcases List.mem_append.mp he with q | q
          · exact hup6 e q t ht
          · rw [List.mem_singleton.mp q] at ht
            obtain ⟨j, hj⟩ := List.getElem?_of_mem ht
            exact hj6 j (List.getElem?_eq_some_iff.mp hj).1 t hj
end
end Lk

set_option Elab.async false
set_option linter.all false
set_option maxRecDepth 100000
set_option maxHeartbeats 4000000
namespace Lk
open PySem L2
abbrev s_law_rows : Stmt := top 40
abbrev N_law_rows : List Str := ["commands", "length", "found", "turn", "longer", "row", "command"]
abbrev P_law_rows : List Str := ["commands", "length"]
theorem sc_law_rows : FnScope N_law_rows P_law_rows (defScope s_law_rows) := ⟨rfl, rfl, rfl, by decide +kernel, rfl, by decide +kernel, by decide +kernel⟩
abbrev s_law_refused : Stmt := top 46
abbrev N_law_refused : List Str := ["machine", "row", "wrong"]
abbrev P_law_refused : List Str := ["machine", "row"]
theorem sc_law_refused : FnScope N_law_refused P_law_refused (defScope s_law_refused) := ⟨rfl, rfl, rfl, by decide +kernel, rfl, by decide +kernel, by decide +kernel⟩
def extL (A : Nat) (r : List Int) : List (List Int) := (List.range A).map fun (c : Nat) => r ++ [(c : Int)]
/-- all rows of a length, ascending -/
def rowsL (A : Nat) : Nat → List (List Int)
  | 0 => [[]]
  | n + 1 => (rowsL A n).flatMap (extL A)
theorem ext_len (A : Nat) (r : List Int) : (extL A r).length = A := by
  unfold extL
  rw [List.length_map, List.length_range]
theorem flat_len {A : Nat} : ∀ l : List (List Int), (l.flatMap (extL A)).length = l.length * A
  | [] => by simp
  | r :: l => by rw [List.flatMap_cons, List.length_append, ext_len, flat_len l, List.length_cons, Nat.succ_mul, Nat.add_comm]
theorem rows_len (A : Nat) : ∀ n, (rowsL A n).length = A ^ n
  | 0 => rfl
  | n + 1 => by
    show ((rowsL A n).flatMap (extL A)).length = _
    rw [flat_len, rows_len A n, Nat.pow_succ]
theorem rows_few {A n : Nat} (h : A ≤ 3) (k : n ≤ 4) : (rowsL A n).length ≤ 81 := by
  rw [rows_len]
  have h1 : A ^ n ≤ 3 ^ n := Nat.pow_le_pow_left h n
  have h2 : 3 ^ n ≤ 3 ^ 4 := Nat.pow_le_pow_right (by decide) k
  have h3 : 3 ^ 4 = 81 := by decide
  omega
theorem mem_rows {A : Nat} : ∀ {n : Nat} {r : List Int}, r ∈ rowsL A n ↔ InA A r ∧ r.length = n
  | 0, r => by
    constructor
    · intro h
      rw [List.mem_singleton.mp h]
      exact ⟨fun c hc => (by cases hc), rfl⟩
    · rintro ⟨_, h⟩
      rw [List.length_eq_zero_iff.mp h]
      exact List.mem_singleton_self _
  | n + 1, r => by
    show r ∈ (rowsL A n).flatMap (extL A) ↔ _
    rw [List.mem_flatMap]
    constructor
    · rintro ⟨q, hq, h⟩
      obtain ⟨h1, h2⟩ := mem_rows.mp hq
      unfold extL at h
      obtain ⟨c, hc, rfl⟩ := List.mem_map.mp h
      have := List.mem_range.mp hc
      refine ⟨fun z hz => ?_, by rw [List.length_append, List.length_singleton, h2]⟩
      rcases List.mem_append.mp hz with w | w
      · exact h1 z w
      · rw [List.mem_singleton.mp w]
        omega
    · rintro ⟨h1, h2⟩
      obtain ⟨q, c, rfl⟩ : ∃ q c, r = q ++ [c] := ⟨r.dropLast, r.getLast (by intro e; rw [e] at h2; cases h2), (List.dropLast_concat_getLast _).symm⟩
      have ⟨c0, c1⟩ := h1 c (List.mem_append_right _ List.mem_cons_self)
      rw [List.length_append, List.length_singleton] at h2
      refine ⟨q, mem_rows.mpr ⟨fun z hz => h1 z (List.mem_append_left _ hz), by omega⟩, ?_⟩
      unfold extL
      exact List.mem_map.mpr ⟨c.toNat, List.mem_range.mpr (by omega), by rw [Int.toNat_of_nonneg c0]⟩
theorem lx_app : ∀ {a b : List Int} {c d : List Int}, a.length = b.length → lx a b → lx (a ++ c) (b ++ d)
  | x :: a, y :: b, c, d, h, k => by
    rcases k with k | ⟨k1, k2⟩
    · exact .inl k
    · exact .inr ⟨k1, lx_app (by simpa using h) k2⟩
  | [], _, _, _, _, k => k.elim
  | _ :: _, [], _, _, _, k => k.elim
theorem lx_last : ∀ {a : List Int} {c d : Int}, c < d → lx (a ++ [c]) (a ++ [d])
  | [], _, _, h => .inl h
  | _ :: a, _, _, h => .inr ⟨rfl, lx_last (a := a) h⟩
theorem rows_asc {A : Nat} : ∀ n, (rowsL A n).Pairwise lx
  | 0 => List.pairwise_singleton _ _
  | n + 1 => by
    show ((rowsL A n).flatMap (extL A)).Pairwise lx
    rw [List.pairwise_flatMap]
    refine ⟨fun r hr => ?_, ?_⟩
    · unfold extL
      rw [List.pairwise_map]
      exact List.pairwise_lt_range.imp fun h => lx_last (by omega)
    · refine List.Pairwise.imp_of_mem ?_ (rows_asc n)
      intro a b ha hb h x hx y hy
      unfold extL at hx hy
      obtain ⟨c, _, rfl⟩ := List.mem_map.mp hx
      obtain ⟨d, _, rfl⟩ := List.mem_map.mp hy
      exact lx_app (by rw [(mem_rows.mp ha).2, (mem_rows.mp hb).2]) h
def spRows : Sp := fun vs H Q _ => ∃ (A n : Nat), vs = [.int (A : Int), .int (n : Int)] ∧ A ≤ 3 ∧ n ≤ 4 ∧ ∀ H' p ts, Same H H' → H p = none → ListT H' p ts → ts.map (·.2) = rowsL A n → Q (.ref p) H'
def spLRefused (CM : Addr) : Sp := fun vs H Q _ => ∃ (m : Addr) (y : V) (dy : PyData) (A : Int) (us : List (Addr × List Int)), vs = [.ref m, y] ∧ MachAt CM H m A us ∧ MOk A us ∧ Dv H y dy ∧ (itemsD dy).length ≤ 1000 ∧
  ∀ H', Same H H' → Q (match rowRes A dy with | some k => .int (k : Int) | none => .non) H'
theorem cat_any {K : PySem.W.Frag} {H : Hp} {a b : Addr} {xs ys : List V} {Q : VK} (h1 : H a = some (.tup xs)) (h2 : H b = some (.tup ys)) (hz : xs.length + ys.length ≤ sizeLine) (k : ∀ H' t, Same H H' → H' t = some (.tup (xs ++ ys)) → Q (.ref t) H') : rCatA K (.ref a) (.ref b) H Q :=
  ⟨a, b, xs, ys, rfl, rfl, SqT.of h1, SqT.of h2, hz, fun e => k H b (Same.refl _) (by rw [e, List.nil_append]; exact h2), fun _ e => k H a (Same.refl _) (by rw [e, List.append_nil]; exact h1), fun _ _ p hp => k _ p (Same.new hp) upd_same⟩
section
variable {P : Program} {w : World} {K : PySem.W.Frag} {mg : Str → Option Value} {base : Heap} {CM CW : Addr}
theorem ok_lrefused {f fk fW : Addr} {fd fdk : FuncData} (A0 : Df K mg "_law_refused" s_law_refused f fd P_law_refused) (d_kernel : Df K mg "kernel" s_kernel fk fdk P_kernel) (G_kernel : FnOk P w K mg base (L2.CX P w) 8 fk fdk P_kernel (spKernel CM CW))
    (TW : PySem.ErrX.ErrTxt K mg "InvalidRow" "InvalidRow.__init__" CW fW) : FnOk P w K mg base CX0 9 f fd P_law_refused (spLRefused CM) := by
  refine A0.F.ok sc_law_refused (fun vs H Q E h => ?_) (fun cdv Ar outer s H vs Q E hr h => ?_)
  · obtain ⟨m, y, dy, A, us, rfl, _⟩ := h
    rfl
  · obtain ⟨m, y, dy, A, us, rfl, M, O, Dy, n1, k⟩ := h
    refine ⟨_, pss_cons (ps_try_as (i := 2) (tb := fun W => tSeq (tDrop (tCallS (spKernel CM CW) (WE W) (tCons (tVar 0) (tCons (tVar 1) tNil)))) tNext) (ts := fun a cls d => tRet (tByLow CW a cls d (tVar 2))) (Wout := fun _ _ _ _ => False) rfl rfl sc_law_refused.nd rfl rfl ⟨rfl, by decide, Or.inl TW.gC⟩ takes0
        (fun W pn xe tk _ => pss_one (ps_expr (by exact (pe_callS G_kernel (hr.mono (by decide)) rfl d_kernel.g d_kernel.F.kp d_kernel.b (fun σ => passAt tk σ) (by exact (pa_cons (pv 0) (pa_cons (pv 1) pa_nil)))))))
        (fun a oe cls d pn hz hf => pss_one (ps_ret (pe_byLow TW hz hf (pv 2)))))
      (pss_one (ps_ret pe_non)), ?_⟩
    refine ⟨_, rfl, _, rfl, m, y, dy, A, us, rfl, M, O, Dy, n1, ?_⟩
    cases e : rowRes A dy with
    | some z =>
      rw [e] at k
      exact fun H' q S' hq => ⟨true, TW.te, fun _ a ha => ⟨_, rfl, rfl, rfl, q, .int (z : Int), rfl, upd_same, k _ (S'.trans (Same.new hq))⟩, fun e => by cases e⟩
    | none =>
      rw [e] at k
      exact fun H' t S' ht => k H' S'
theorem ok_rows {f : Addr} {fd : FuncData} (A0 : Df K mg "_law_rows" s_law_rows f fd P_law_rows) (T : Txt mg) : FnOk P w K mg base CX0 1 f fd P_law_rows spRows := by
  refine A0.F.ok sc_law_rows (fun vs H Q E h => ?_) (fun cdv Ar outer s H vs Q E hr h => ?_)
  · obtain ⟨A, n, rfl, _⟩ := h
    rfl
  · obtain ⟨A, n, rfl, hA, hn, k⟩ := h
    refine ⟨_, (pss_cons (ps_set (i := 2) sc_law_rows.nd rfl (Or.inl rfl) (pe_lst (pa_cons (pe_tup pa_nil) pa_nil)))
    (pss_cons (ps_for PassesOwn.never rfl (pi_range1 rfl T.range (pa_cons (pv 1) pa_nil)) (pg_name (i := 3) sc_law_rows.nd rfl (Or.inl rfl))
      (pss_cons (ps_set (i := 4) sc_law_rows.nd rfl (Or.inl rfl) (pe_lst pa_nil))
      (pss_cons (ps_for PassesOwn.never rfl (pi_list (pv 2)) (pg_name (i := 5) sc_law_rows.nd rfl (Or.inr rfl))
        (pss_one (ps_set (i := 4) sc_law_rows.nd rfl (Or.inl rfl) (pe_op op_cat (pv 4) (pe_lc (own := [("command", 6)]) (g := gName 6) (tt := tYes) (te := tOp (rCatA K) (tVar 5) (tTup (tCons (tVar 6) tNil))) rfl sc_law_rows.nd (pi_range1 rfl T.range (pa_cons (pv 0) pa_nil)) (blkOk_by (N := N_law_rows) (sc := defScope s_law_rows) (by decide +kernel)) (fun _ _ _ _ _ => (pg_name (i := 6) sc_law_rows.nd rfl (Or.inl rfl))) (fun _ _ _ _ _ => pts_nil) (fun _ _ _ _ _ => (pe_op op_catA (pv 5) (pe_tup (pa_cons (pv 6) pa_nil)))))))))
      (pss_one (ps_set (i := 2) sc_law_rows.nd rfl (Or.inl rfl) (pv 4))))))
    (pss_one (ps_ret (pv 2))))), ?_⟩
    refine ⟨Nat.zero_le _, fun e0 he0 => ⟨by show 1 ≤ sizeLine; decide, fun l0 hl0 => ?_⟩⟩
    refine norm (σ' := [some (.int (A : Int)), some (.int (n : Int)), some (.ref l0), none, none, none, none]) rfl ?_
    have S1 : Same H (upd (upd H e0 (.tup [])) l0 (.lst [V.ref e0])) := (Same.new he0).trans (Same.new hl0)
    have L1 : ListT (upd (upd H e0 (.tup [])) l0 (.lst [V.ref e0])) l0 [(e0, [])] := ⟨upd_same, fun t ht => by
      rw [List.mem_singleton.mp ht]
      exact nk upd_same hl0⟩
    have l00 : H l0 = none := ff he0 hl0
    refine ⟨_, rfl, n, rfl, by omega, by omega, ?_⟩
    refine for_range (lo := 0) (n := n) (fun i σ U => ∃ (l : Addr) (ts : List (Addr × List Int)) (v3 v4 v5 : Option V), σ = [some (.int (A : Int)), some (.int (n : Int)), some (.ref l), v3, v4, v5, none] ∧ Same H U ∧ H l = none ∧ ListT U l ts ∧ ts.map (·.2) = rowsL A i) ⟨l0, _, none, none, none, rfl, S1, l00, L1, rfl⟩ ?_ ?_
    · clear S1 L1 l00 l0 e0 he0 hl0
      rintro i σ U hi ⟨l, ts, v3, v4, v5, rfl, S, l0, L, et⟩
      refine ⟨Nat.zero_le _, fun g0 hg0 => ?_⟩
      refine norm (σ' := [some (.int (A : Int)), some (.int (n : Int)), some (.ref l), some (.int (0 + (i : Int))), some (.ref g0), v5, none]) rfl ?_
      have Lg := L.same (Same.new (o := HO.lst []) hg0)
      have few : (rowsL A (i + 1)).length ≤ 81 := rows_few hA (by omega)
      have efl : ((ts.map (·.2)).flatMap (extL A)) = rowsL A (i + 1) := by rw [et] <;> rfl
      refine ⟨_, rfl, l, rfl, ⟨_, SqL.of Lg.top⟩, for_list (K := K) (a := l) (xs := ts.map fun t => V.ref t.1) (fun j σ U => ∃ (g : Addr) (gs : List (Addr × List Int)) (v5 : Option V), σ = [some (.int (A : Int)), some (.int (n : Int)), some (.ref l), some (.int (0 + (i : Int))), some (.ref g), v5, none] ∧ Same H U ∧ H g = none ∧ ListT U l ts ∧ ListT U g gs ∧ gs.map (·.2) = ((ts.take j).map (·.2)).flatMap (extL A)) ⟨g0, [], v5, rfl, S.trans (Same.new hg0), S.free hg0, Lg, ⟨upd_same, fun t ht => (by cases ht)⟩, rfl⟩ (fun j σ U _ h => by
        obtain ⟨_, _, _, _, _, _, L, _⟩ := h
        exact SqL.of L.top) ?_ ?_⟩
      · clear Lg S L g0 hg0 v5 U
        rintro j x σ U hx ⟨g, gs, v5, rfl, S, hg, L, G, eg⟩
        rw [List.getElem?_map] at hx
        obtain ⟨t, ht, rfl⟩ := Option.map_eq_some_iff.mp hx
        have htm := List.mem_of_getElem? ht
        have hrow := L.row t htm
        have hjl := (List.getElem?_eq_some_iff.mp ht).1
        have tlen : t.2.length ≤ 4 := by
          have : t.2 ∈ rowsL A i := by rw [← et]; exact List.mem_map.mpr ⟨t, htm, rfl⟩
          have := (mem_rows.mp this).2
          omega
        refine ⟨_, rfl, _, rfl, A, rfl, by omega, by omega, fun D hD => ?_⟩
        have wk := walk_rangeV (n := A)
        refine lcWT (n := A) wk (fun i => some (t.2 ++ [(i : Int)])) hD (by omega) (fun H' S => trivial) ?_ ?_
        · rintro c x V1' V1 hc SV ⟨rfl, hx⟩ N Q' _ kQ
          obtain rfl := Option.some.inj hx
          refine ⟨wipe1 _ _ _, iteT (B := N V1) ⟨_, rfl, _, rfl, by show 1 ≤ sizeLine; decide, fun c1 hc1 => ?_⟩⟩
          refine cat_any (nk (SV _ _ hrow) hc1) upd_same (Nat.le_trans (show _ ≤ 5 by rw [List.length_map, List.length_singleton]; omega) (by decide)) fun V2 q S2 hq => ?_
          exact kQ _ rfl V2 q ((Same.new hc1).trans S2) (by rw [hq, List.map_append] <;> rfl)
        · intro U3 bs S3 B3 eb
          have eb2 : bs.map (·.2) = extL A t.2 := by
            rw [eb]
            exact fm_all _ _ _ fun i _ => rfl
          have G3 := G.same S3
          have lens : gs.length + bs.length ≤ 81 := by
            have h1 := congrArg List.length eg
            have h2 := congrArg List.length eb2
            rw [List.length_map] at h1 h2
            rw [ext_len] at h2
            rw [flat_len, List.length_map, List.length_take] at h1
            have h3 := congrArg List.length efl
            rw [flat_len, List.length_map] at h3
            have h4 : (min j ts.length + 1) * A ≤ ts.length * A := Nat.mul_le_mul_right A (by omega)
            rw [Nat.succ_mul] at h4
            omega
          refine ⟨g, D, _, _, rfl, rfl, G3.top, B3.top, Nat.le_trans (show _ ≤ 81 by rw [List.length_map, List.length_map]; exact lens) (by decide), fun p hp => ?_⟩
          have S4 : Same U (upd U3 p (HO.lst ((gs.map fun t => V.ref t.1) ++ bs.map fun t => V.ref t.1))) := S3.trans (Same.new hp)
          refine ⟨p, gs ++ bs, _, rfl, S.trans S4, (S.trans S3).free hp, L.same S4, ⟨by rw [upd_same, List.map_append], fun u hu => ?_⟩, ?_⟩
          · rcases List.mem_append.mp hu with w | w
            · exact nk (G3.row u w) hp
            · exact nk (B3.row u w) hp
          · rw [List.map_append, eg, eb2, take_next ht, List.map_append, List.flatMap_append]
            simp
      · rintro σ U ⟨g, gs, v5, rfl, S, hg, L, G, eg⟩
        rw [List.length_map, List.take_length, efl] at eg
        exact ⟨_, rfl, g, gs, _, _, _, rfl, S, hg, G, eg⟩
    · rintro σ U ⟨l, ts, v3, v4, v5, rfl, S, l0, L, et⟩
      exact ⟨_, rfl, k U l ts S l0 L et⟩
end
end Lk

set_option Elab.async false
set_option linter.all false
set_option maxRecDepth 100000
set_option maxHeartbeats 4000000
/-! sorted(d), d a dict whose keys are tuples of ints -/
namespace Lk
open PySem PySem.Spec PyProof.Rows L2
def unI (k : List Key) : List Int := k.map fun | .inl i => i | .inr _ => 0
theorem unI_inl (k : List Int) : unI (k.map Sum.inl) = k := by
  unfold unI
  rw [List.map_map]
  have : ((fun | Sum.inl i => i | Sum.inr _ => 0 : Key → Int) ∘ Sum.inl) = id := rfl
  rw [this, List.map_id]
def rSortD (d : Nat) (B : Int) : List V → Hp → VK → Prop := fun vs H Q => ∃ (a : Addr) (kvs : List (List Key × V)) (ks : List (List Int)), vs = [V.ref a] ∧ H a = some (.dT kvs) ∧ kvs.map (·.1) = ks.map (fun k => k.map Sum.inl) ∧ ks.length < 64 ∧ (∀ k ∈ ks, k.length = d ∧ TS.Bd B k) ∧
  ∀ (L' : List (Addr × List Int)) (p : Addr), (L'.map (·.2)).Perm ks → (L'.Pairwise fun x y => TS.code B x.2 ≤ TS.code B y.2) → (∀ q ∈ L', H q.1 = some (.tup (q.2.map V.int))) → H p = none → Q (.ref p) (upd H p (.lst (L'.map fun q => V.ref q.1)))
section
variable {X : Cx}
theorem cr_sortD (hc : X.calm = true) {d : Nat} {B : Int} (hd : 1 ≤ d) : CallR X (.builtin "sorted") (rSortD d B) := by
  intro pins s σ H vs us Q I r h
  obtain ⟨a, kvs, ks, rfl, ha, hk, h64, hB, q⟩ := h
  obtain ⟨u, rfl, ru⟩ := Vals.one r
  cases ru
  obtain ⟨z, lo, xs, pr, o, es, ep, ho, hx, hdt, he, hn⟩ := (show ObjOk X.prog X.w H s.heap a (.dT kvs) from I.hok a _ ha)
  have l1 : es.size = xs.length := size_of_entries he
  have l2 : kvs.length = xs.length := Paired.length pr
  have l3 : kvs.length = ks.length := by
    have := congrArg List.length hk
    rwa [List.length_map, List.length_map] at this
  -- each key with the address of its tuple
  have base : ∀ {kvs : List (List Key × V)} {xs : List (List Key × Addr × Value)} {ks : List (List Int)}, Paired (fun (p : List Key × V) (q : List Key × Addr × Value) => p.1 = q.1 ∧ H q.2.1 = some (.tup (p.1.map kV)) ∧ RelV p.2 q.2.2) kvs xs → kvs.map (·.1) = ks.map (fun k => k.map Sum.inl) →
      ∃ L : List (Addr × List Int), L.map (·.2) = ks ∧ (L.map fun p => Value.ref p.1) = xs.map (fun x => Value.ref x.2.1) ∧ ∀ p ∈ L, H p.1 = some (.tup (p.2.map V.int)) := by
    intro kvs xs ks pr
    induction pr generalizing ks with
    | nil =>
      intro e
      cases ks with
      | nil => exact ⟨[], rfl, rfl, fun p hp => by cases hp⟩
      | cons _ _ => cases e
    | @cons p x kvs xs h t ih =>
      intro e
      cases ks with
      | nil => cases e
      | cons k ks =>
        injection e with e1 e2
        obtain ⟨L, a1, a2, a3⟩ := ih e2
        refine ⟨(x.2.1, k) :: L, by rw [List.map_cons, a1], by rw [List.map_cons, List.map_cons, a2], fun q hq => ?_⟩
        rcases List.mem_cons.mp hq with rfl | hq
        · have := h.2.1
          rw [show p.1 = k.map Sum.inl from e1, kv_ints] at this
          exact this
        · exact a3 q hq
  obtain ⟨L, b1, b2, b3⟩ := base pr hk
  refine Calls.call_function_entry PyProof.Rows.kind_sorted PyProof.Rows.plain_sorted PyProof.Rows.entry_sorted (PyProof.Rows.args_sorted1 _) ?_
  unfold Builtin.«sorted»
  refine wpAny_bind (m := checkCount "sorted" 1 1 _) (wpAny_pure (wpAny_bind (PySem.W.kdu_collect (A := X.A.in1) (kdl_raw lo hx hdt) (I.ok.hd hc) ho (by omega) fun h' tk acc kp it => ?_)))
  have ea : acc.toList = L.map fun p => Value.ref p.1 := by
    rw [b2]
    have hl : acc.toList.length = xs.length := by rw [Array.length_toList, it.1]; exact l1
    refine List.ext_getElem? fun j => ?_
    rw [List.getElem?_map]
    cases hj : acc.toList[j]? with
    | none =>
      have h1 := List.getElem?_eq_none_iff.mp hj
      rw [List.getElem?_eq_none (by omega)]
      rfl
    | some v =>
      obtain ⟨en, hen, hv⟩ := it.2 j v (by rw [← Array.getElem?_toList]; exact hj)
      have qe := entry_at he j
      rw [hen] at qe
      cases hb : xs[j]? with
      | none =>
        rw [hb] at qe
        exact nomatch (show some en = none from qe)
      | some b =>
        rw [hb] at qe
        have e2 : en = entryOfKey (tupleKind (mixKind X.prog X.w)) b := Option.some.inj qe
        rw [hv, e2]
        rfl
  have I1 : Inv X pins σ H { s with heap := h', toks := tk } := I.kept kp
  have ll : L.length < 64 := by
    have := congrArg List.length b1
    rw [List.length_map] at this
    omega
  have al : acc.toList.length < 64 := by rw [ea, List.length_map]; exact ll
  refine wpAny_bind (wpAny_newList ?_ (by rw [sizeLine_eq]; omega))
  have hoL : (h'.push (seqObj "list" acc.toList.toArray 0)).get? h'.objs.size = some (seqObj "list" acc.toList.toArray 0) := Heap.get?_push_size _ rfl
  show wpAny _ _ _ _ _ { s with heap := h'.push (seqObj "list" acc.toList.toArray 0), toks := tk }
  have tI : ∀ p ∈ L, TS.TupInts (h'.push (seqObj "list" acc.toList.toArray 0)) (.ref p.1) p.2 := fun p hp => tupInts_of (P := X.prog) (w := X.w) (isT_keep (I1.isT (SqT.of (b3 p hp))) fun b u e => Heap.get?_push_of_some _ e)
  have x : TS.TupsOk (h'.push (seqObj "list" acc.toList.toArray 0)) d B acc.toList := fun v hv => by
    rw [ea] at hv
    obtain ⟨p, hp, e⟩ := List.mem_map.mp hv
    rw [← e]
    have hb := hB p.2 (by rw [← b1]; exact List.mem_map.mpr ⟨p, hp, rfl⟩)
    exact ⟨p.2, tI p hp, hb.1, hb.2⟩
  refine wpAny_bind (wpAny_holding (TS.call_sort_tups (s := { s with heap := h'.push (seqObj "list" acc.toList.toArray 0), toks := tk }) hoL al hd x fun out a1 a2 => ?_))
  obtain ⟨e', he'⟩ := PyProof.Rows.sortedHeap_at (vs := acc.toList) (out := out) hoL
  rw [ea] at a1
  obtain ⟨L', pL, eL⟩ := perm_back a1 (f := fun p : Addr × List Int => Value.ref p.1) (ks := L) rfl
  have pw : L'.Pairwise fun x y => TS.code B x.2 ≤ TS.code B y.2 := by
    rw [eL] at a2
    refine List.Pairwise.imp_of_mem (fun {q r} hq hr hle => ?_) (List.pairwise_map.mp a2)
    rw [← (tI q (pL.mem_iff.mp hq)).ints, ← (tI r (pL.mem_iff.mp hr)).ints]
    exact hle
  have hlen : (L'.map fun q => V.ref q.1).length ≤ sizeLine := by rw [List.length_map, pL.length_eq, sizeLine_eq]; omega
  refine wpAny_pure ⟨_, rfl, .ref h'.objs.size, upd H h'.objs.size (.lst (L'.map fun q => V.ref q.1)), I1.laid (t' := tk) (fun b u e => ?_) (Nat.le_refl _)
    (show ObjOk X.prog X.w _ _ _ (.lst (L'.map fun q => V.ref q.1)) from ⟨hlen, out.toList, e', by rw [eL]; exact vals_of_refs L', by rw [Array.toArray_toList]; exact he'⟩), rfl, q L' _ (by rw [← b1]; exact pL.map _) pw (fun p hp => b3 p (pL.mem_iff.mp hp)) (I1.hok.fresh (Nat.le_refl _))⟩
  have hb : b < h'.objs.size := Heap.lt_size e
  rw [PyProof.Rows.sortedHeap_old (Nat.ne_of_lt hb) (by rw [size_push']; exact Nat.lt_succ_of_lt hb)]
  exact Heap.get?_push_of_some _ e
end
end Lk

set_option Elab.async false
set_option linter.all false
set_option maxRecDepth 100000
set_option maxHeartbeats 4000000
namespace Lk
open PySem L2
abbrev s_kernels : Stmt := top 26
abbrev N_kernels : List Str := ["machine"]
abbrev P_kernels : List Str := ["machine"]
theorem sc_kernels : FnScope N_kernels P_kernels (defScope s_kernels) := ⟨rfl, rfl, rfl, by decide +kernel, rfl, by decide +kernel, by decide +kernel⟩
def spKernels (CM : Addr) : Sp := fun vs H Q _ => ∃ (m : Addr) (A : Int) (us : List (Addr × List Int)), vs = [.ref m] ∧ MachAt CM H m A us ∧ MOk A us ∧ us.length ≤ 5 ∧
  ∀ H' t kt, Same H H' → H' t = some (.tup (kt.map fun p : Addr × List Int => V.ref p.1)) → (∀ p ∈ kt, H' p.1 = some (.tup (p.2.map V.int))) → Kers (rsOf us) A.toNat kt → kt.length ≤ 52 → Q (.ref t) H'
section
variable {P : Program} {w : World} {K : PySem.W.Frag} {mg : Str → Option Value} {base : Heap} {CM : Addr}
theorem ok_kers {f fc : Addr} {fd fdc : FuncData} (A0 : Df K mg "kernels" s_kernels f fd P_kernels) (d_climbs : Df K mg "climbs" s_climbs fc fdc P_climbs) (G_climbs : FnOk P w K mg base CX0 3 fc fdc P_climbs (spClimbs CM)) (T : Txt mg) (zsort : mg "sorted" = none) : FnOk P w K mg base CX0 4 f fd P_kernels (spKernels CM) := by
  refine A0.F.ok sc_kernels (fun vs H Q E h => ?_) (fun cdv Ar outer s H vs Q E hr h => ?_)
  · obtain ⟨m, A, us, rfl, _⟩ := h
    rfl
  · obtain ⟨m, A, us, rfl, M, O, hz, k⟩ := h
    have lr : (rsOf us).length = us.length := rsOf_len us
    have hpos := O.rs.pos
    rw [lr] at hpos
    refine ⟨_, (pss_one (ps_ret (pe_tupleOf (by rfl) T.tuple (pe_callB (cr_sortD rfl (d := us.length) (B := 16) (by omega)) (by rfl) zsort (by decide +kernel) (pa_cons (pe_call G_climbs (hr.mono (by decide)) rfl d_climbs.g d_climbs.F.kp d_climbs.b .nil pass0 (pa_cons (pv 0) pa_nil)) pa_nil))))), ?_⟩
    refine ⟨_, rfl, m, A, us, rfl, M, O, hz, fun H1 d es S1 C1 Cm el => ?_⟩
    refine ⟨d, _, es.map (·.1), rfl, C1.top, by rw [List.map_map, List.map_map]; rfl, by rw [List.length_map]; omega, fun x hx => ?_, fun L' p pm srt hrow hp => ?_⟩
    · obtain ⟨e, he, rfl⟩ := List.mem_map.mp hx
      obtain ⟨ns, _, ek⟩ := Cm.ker e he
      refine ⟨by rw [ek, kerR_len, lr], fun z hz => ?_⟩
      rw [ek] at hz
      have := kerR_in z hz
      omega
    · refine .inl ⟨p, _, rfl, SqL.of upd_same, fun t ht => ?_⟩
      refine k _ t L' ((S1.trans (Same.new hp)).trans (Same.new ht)) upd_same (fun q hq => nk (nk (hrow q hq) hp) ht) ⟨fun q hq => ?_, fun ns hns => ?_, ?_, srt⟩ ?_
      · have : q.2 ∈ es.map (·.1) := pm.mem_iff.mp (List.mem_map.mpr ⟨q, hq, rfl⟩)
        obtain ⟨e, he, ee⟩ := List.mem_map.mp this
        obtain ⟨ns, a, b⟩ := Cm.ker e he
        exact ⟨ns, a, by rw [← ee, b]⟩
      · exact pm.mem_iff.mpr (Cm.all ns hns)
      · exact pm.nodup_iff.mpr Cm.nd
      · have := pm.length_eq
        rw [List.length_map, List.length_map] at this
        omega
end
end Lk

set_option Elab.async false
set_option linter.all false
set_option maxRecDepth 100000
set_option maxHeartbeats 4000000
/-! tuple * int, the int at least 1 -/
namespace Lk
open PySem PySem.Spec PyProof.Rows L2
theorem tuple_mul1 (l : Addr) (items : Array Value) (n : Nat) (dd : Option Addr) (sl : Array (Option Value)) (u : Tok) :
    Meets (Builtin.«tuple.__mul__» ⟨[.ref l, .int 1 u], []⟩) (fun _ R s => s.heap.get? l = some { cls := .type "tuple", dict := dd, data := .seq items n, slots := sl } ∧
      R (.ok (.ret (Value.ref l))) s) :=
  .of_wp fun prog w A R s h => by
    obtain ⟨hp, g, d, tk, os⟩ := s
    obtain ⟨hl, h⟩ := h
    have f1 := AutoSeq1.idx_int
    have c1 : (items.isEmpty || (1 : Int) == 1) = true := by simp
    wp_walk using wpAny_loadPart' hl
    repeat (first
      | (refine wpAny_ite_true (decide_eq_true c1) ?_; wp_walk using wpAny_loadPart' hl)
      | (refine wpAny_ite_false (decide_eq_false (by decide)) ?_; wp_walk using wpAny_loadPart' hl))
    exact ⟨_, rfl, h⟩
def rRepA (K : PySem.W.Frag) : R2 := fun x y H Q => ∃ l k xs, x = .ref l ∧ y = .int k ∧ SqT K H l xs ∧ xs ≠ [] ∧ 1 ≤ k ∧ k ≤ 1000 ∧ xs.length ≤ 1000 ∧ (k = 1 → Q (.ref l) H) ∧ (2 ≤ k → ∀ p, H p = none → Q (.ref p) (upd H p (.tup (List.replicate k.toNat xs).flatten)))
theorem op_repA {X : Cx} : OpR X (binaryOp .Mult) (rRepA X.K) := by
  intro pins s σ H x y v u Q I rx ry h
  obtain ⟨l, k, xs, rfl, rfl, hT, hne, h1, h2, hz, q1, q2⟩ := h
  by_cases hk : 2 ≤ k
  · exact op_repT pins s σ H _ _ v u Q I rx ry ⟨l, k, xs, rfl, rfl, hT, hne, hk, h2, hz, q2 hk⟩
  obtain rfl : k = 1 := by omega
  cases rx
  obtain ⟨t, rfl⟩ := ry
  obtain ⟨its, r, ⟨⟨cls, dd, data, sl⟩, ho, hc, n, hd⟩, hs⟩ := I.tuple hT
  simp only at hc hd
  subst hc hd
  refine wpAny_binaryOp_repeat_ref (T := "tuple") (U := "int") (by decide) ⟨_, ho, rfl⟩ (fun s' => typeIs_int s' 1 t) noFill_tuple_mul F.fills_int_mul F.slot_int_rmul repeat_tuple F.slot_int_index.lookup
    (call_meets F.slot_int_rmul (typeIs_int s 1 t) F.entry_int_rmul (F.args_int_rmul_2 _ _) (int_rmul_tuple 1 t l its.toArray n dd sl)
      ⟨ho, rfl, ⟨_, ho, rfl⟩, call_meets F.slot_tuple_mul ⟨_, ho, rfl⟩ F.entry_tuple_mul (F.args_tuple_mul_2 _ _) (tuple_mul1 l its.toArray n dd sl t) ⟨ho, ?_⟩⟩)
  exact ⟨.ref l, H, I, rfl, q1 rfl⟩
end Lk

set_option Elab.async false
set_option linter.all false
set_option maxRecDepth 100000
set_option maxHeartbeats 4000000
namespace Lk
open PySem L2
theorem code_inj16 : ∀ {a b : List Int}, a.length = b.length → (∀ z ∈ a, 0 ≤ z ∧ z < 16) → (∀ z ∈ b, 0 ≤ z ∧ z < 16) → TS.code 16 a = TS.code 16 b → a = b
  | [], [], _, _, _, _ => rfl
  | [], _ :: _, h, _, _, _ => by cases h
  | _ :: _, [], h, _, _, _ => by cases h
  | x :: a, y :: b, h, ha, hb, e => by
    have hl : a.length = b.length := by simpa using h
    have ta : TS.Bd 16 a := fun m hm => ha m (List.mem_cons_of_mem _ hm)
    have tb : TS.Bd 16 b := fun m hm => hb m (List.mem_cons_of_mem _ hm)
    obtain ⟨a0, a1⟩ := TS.code_bd a ta
    obtain ⟨b0, b1⟩ := TS.code_bd b tb
    have e : x * 16 ^ a.length + TS.code 16 a = y * 16 ^ b.length + TS.code 16 b := e
    rw [← hl] at e b1
    have q : x = y := by
      rcases Int.lt_trichotomy x y with w | w | w
      · have := TS.num2 a0 a1 b0 w
        omega
      · exact w
      · have := TS.num2 b0 b1 a0 w
        omega
    subst q
    rw [code_inj16 hl ta tb (by omega)]
theorem asc_code : ∀ {xs ys : List (List Int)}, (∀ x ∈ xs, ∀ y ∈ xs, TS.code 16 x = TS.code 16 y → x = y) → xs.Pairwise (fun x y => TS.code 16 x ≤ TS.code 16 y) → ys.Pairwise (fun x y => TS.code 16 x ≤ TS.code 16 y) → xs.Perm ys → xs = ys
  | [], ys, _, _, _, h => (List.Perm.eq_nil h.symm).symm
  | x :: xs, [], _, _, _, h => absurd h.length_eq (by simp)
  | x :: xs, y :: ys, inj, h1, h2, h => by
    obtain ⟨a1, a2⟩ := List.pairwise_cons.mp h1
    obtain ⟨b1, b2⟩ := List.pairwise_cons.mp h2
    have e : x = y := by
      rcases List.mem_cons.mp (h.mem_iff.mp (List.mem_cons_self (a := x) (l := xs))) with z | z
      · exact z
      · rcases List.mem_cons.mp (h.mem_iff.mpr (List.mem_cons_self (a := y) (l := ys))) with u | u
        · exact u.symm
        · have c1 := b1 x z
          have c2 := a1 y u
          exact inj x List.mem_cons_self y (List.mem_cons_of_mem _ u) (by omega)
    subst e
    rw [asc_code (fun p hp q hq => inj p (List.mem_cons_of_mem _ hp) q (List.mem_cons_of_mem _ hq)) a2 b2 (List.Perm.cons_inv h)]
/-- two lists of all kernels of rows, ascending, hold the same -/
theorem Kers.uniq {rs : List (List Int)} {A : Nat} {kt ks : List (Addr × List Int)} (hn : rs.length ≤ 16) (x : Kers rs A kt) (y : Kers rs A ks) : kt.map (·.2) = ks.map (·.2) := by
  have km : ∀ {kt ks : List (Addr × List Int)}, Kers rs A kt → Kers rs A ks → ∀ k, k ∈ kt.map (·.2) → k ∈ ks.map (·.2) := fun x y k hk => by
    obtain ⟨t, ht, rfl⟩ := List.mem_map.mp hk
    obtain ⟨ns, a, e⟩ := x.ker t ht
    rw [e]
    exact y.all ns a
  refine asc_code (fun p hp q hq e => ?_) (List.pairwise_map.mpr x.srt) (List.pairwise_map.mpr y.srt) ?_
  · obtain ⟨t, ht, rfl⟩ := List.mem_map.mp hp
    obtain ⟨u, hu, rfl⟩ := List.mem_map.mp hq
    obtain ⟨ns, _, e1⟩ := x.ker t ht
    obtain ⟨ms, _, e2⟩ := x.ker u hu
    refine code_inj16 (by rw [e1, e2, kerR_len, kerR_len]) (fun z hz => ?_) (fun z hz => ?_) e
    · rw [e1] at hz
      have := kerR_in z hz
      omega
    · rw [e2] at hz
      have := kerR_in z hz
      omega
  · exact (List.perm_ext_iff_of_nodup x.nd y.nd).mpr fun k => ⟨km x y k, km y x k⟩
/-- one of two whole numbers by a test -/
def tPick (t : TT) (i j : Int) : TE := fun σ H Q => t σ H fun c H1 => Q (.int (if c = true then i else j)) H1
theorem pe_pick {X : Cx} {c a b : Expr} {pos : Pos} {tA : TT} {i j : Int} (hc : PT X c tA) (ha : PE X a (tC (.int i))) (hb : PE X b (tC (.int j))) : PE X (.IfExp c a b pos) (tPick tA i j) := by
  refine ⟨fun pins s σ H Q I h => (pe_ifExp hc ha hb).run pins s σ H Q I ?_⟩
  have e : (fun (c : Bool) (H1 : Hp) => if c = true then tC (V.int i) σ H1 Q else tC (V.int j) σ H1 Q) = fun c H1 => Q (.int (if c = true then i else j)) H1 := by
    funext c H1
    cases c <;> rfl
  show tA σ H (fun (c : Bool) (H1 : Hp) => if c = true then tC (V.int i) σ H1 Q else tC (V.int j) σ H1 Q)
  rw [e]
  exact h
/-- the dict of the rows that were seen: kernel, row; all rows shorter than n, and of those of length n the first j -/
structure SeenAt (H : Hp) (d : Addr) (es : List Ent) : Prop where
  top : H d = some (.dT (es.map kvOf))
  row : ∀ e ∈ es, H e.2.1 = some (.tup (e.2.2.map V.int))
theorem SeenAt.same {H H' : Hp} {d : Addr} {es : List Ent} (x : SeenAt H d es) (S : Same H H') : SeenAt H' d es := ⟨S _ _ x.top, fun e he => S _ _ (x.row e he)⟩
structure Seen (rs : List (List Int)) (A : Nat) (es : List Ent) (n j : Nat) : Prop where
  ker : ∀ e ∈ es, InA A e.2.2 ∧ e.1 = kerR rs e.2.2 ∧ (e.2.2.length < n ∨ e.2.2.length = n ∧ e.2.2 ∈ (rowsL A n).take j)
  nd : (es.map (·.1)).Nodup
  told : ∀ r, InA A r → (r.length < n ∨ r.length = n ∧ r ∈ (rowsL A n).take j) → Told1 rs es r
section
variable {rs : List (List Int)} {A n j : Nat} {es : List Ent}
theorem Seen.next (x : Seen rs A es n (rowsL A n).length) : Seen rs A es (n + 1) 0 := by
  refine ⟨fun e he => ?_, x.nd, fun r ha hr => x.told r ha ?_⟩
  · obtain ⟨a, b, c⟩ := x.ker e he
    exact ⟨a, b, .inl (by omega)⟩
  · rcases hr with hr | ⟨_, hr⟩
    · by_cases q : r.length = n
      · exact .inr ⟨q, by rw [List.take_length]; exact mem_rows.mpr ⟨ha, q⟩⟩
      · exact .inl (by omega)
    · rw [List.take_zero] at hr
      cases hr
theorem Seen.ahead (x : Seen rs A es n j) {r : List Int} (hr : (rowsL A n)[j]? = some r) {e : Ent} (he : e ∈ es) : SL e.2.2 r := by
  obtain ⟨a, b, c⟩ := x.ker e he
  have hl := (mem_rows.mp (List.mem_of_getElem? hr)).2
  rcases c with c | ⟨c1, c2⟩
  · exact .inl (by omega)
  · obtain ⟨i, hi⟩ := List.mem_iff_getElem?.mp c2
    have h2 := (List.getElem?_eq_some_iff.mp hi).1
    rw [List.length_take] at h2
    rw [List.getElem?_take_of_lt (by omega)] at hi
    obtain ⟨a1, q1⟩ := List.getElem?_eq_some_iff.mp hi
    obtain ⟨a2, q2⟩ := List.getElem?_eq_some_iff.mp hr
    have := List.pairwise_iff_getElem.mp (rows_asc (A := A) n) i j a1 a2 (by omega)
    rw [q1, q2] at this
    exact .inr ⟨by omega, this⟩
theorem take_mem {r q : List Int} {l : List (List Int)} (h : l[j]? = some q) : r ∈ l.take (j + 1) ↔ r ∈ l.take j ∨ r = q := by
  obtain ⟨a, b⟩ := List.getElem?_eq_some_iff.mp h
  rw [List.take_succ, h, List.mem_append]
  simp
theorem Seen.pass (x : Seen rs A es n j) {r : List Int} (hr : (rowsL A n)[j]? = some r) (h : kerR rs r ∈ es.map (·.1)) : Seen rs A es n (j + 1) := by
  refine ⟨fun e he => ?_, x.nd, fun q ha hq => ?_⟩
  · obtain ⟨a, b, c⟩ := x.ker e he
    exact ⟨a, b, c.imp id fun c => ⟨c.1, (take_mem hr).mpr (.inl c.2)⟩⟩
  · rcases hq with hq | ⟨h1, h2⟩
    · exact x.told q ha (.inl hq)
    · rcases (take_mem hr).mp h2 with w | rfl
      · exact x.told q ha (.inr ⟨h1, w⟩)
      · obtain ⟨e, he, e1⟩ := List.mem_map.mp h
        exact ⟨e, he, e1, .inr (x.ahead hr he)⟩
theorem Seen.add (x : Seen rs A es n j) {r : List Int} (hr : (rowsL A n)[j]? = some r) {t : Addr} (h : kerR rs r ∉ es.map (·.1)) : Seen rs A (es ++ [(kerR rs r, t, r)]) n (j + 1) := by
  obtain ⟨ra, rl⟩ := mem_rows.mp (List.mem_of_getElem? hr)
  have km : ∀ e ∈ es, e ∈ es ++ [(kerR rs r, t, r)] := fun e he => List.mem_append_left _ he
  refine ⟨fun e he => ?_, ?_, fun q ha hq => ?_⟩
  · rcases List.mem_append.mp he with w | w
    · obtain ⟨a, b, c⟩ := x.ker e w
      exact ⟨a, b, c.imp id fun c => ⟨c.1, (take_mem hr).mpr (.inl c.2)⟩⟩
    · rw [List.mem_singleton.mp w]
      exact ⟨ra, rfl, .inr ⟨rl, (take_mem hr).mpr (.inr rfl)⟩⟩
  · rw [List.map_append]
    refine List.nodup_append.mpr ⟨x.nd, by simp, fun a h1 b h2 e => ?_⟩
    rw [List.mem_singleton.mp h2] at e
    exact h ((show a = kerR rs r from e) ▸ h1)
  · rcases hq with hq | ⟨h1, h2⟩
    · exact (x.told q ha (.inl hq)).mono km
    · rcases (take_mem hr).mp h2 with w | rfl
      · exact (x.told q ha (.inr ⟨h1, w⟩)).mono km
      · exact ⟨_, List.mem_append_right _ List.mem_cons_self, rfl, .inl rfl⟩
theorem Seen.few (x : Seen rs A es n j) (hn : rs.length ≤ 5) : es.length ≤ 52 := by
  have := nodup_le (ps := partsL rs.length) x.nd fun k hk => by
    obtain ⟨e, he, rfl⟩ := List.mem_map.mp hk
    rw [(x.ker e he).2.1]
    exact kerR_parts _ _
  rw [List.length_map] at this
  exact Nat.le_trans this (parts_five hn)
/-- what was seen is the least -/
theorem Seen.same_row (x : Seen rs A es n 0) {e : Ent} (he : e ∈ es) {r : List Int} (L : Least rs A e.1 r) : r = e.2.2 := by
  obtain ⟨a, b, c⟩ := x.ker e he
  have h1 := L.2.2 e.2.2 a b.symm
  have hl : e.2.2.length < n := by
    rcases c with c | ⟨_, c⟩
    · exact c
    · rw [List.take_zero] at c
      cases c
  obtain ⟨e', he', q1, q2⟩ := x.told r L.1 (.inl (by have := h1.len; omega))
  obtain rfl := ent_one x.nd he' he (by rw [q1, L.2.1])
  exact h1.anti q2
/-- what was not seen has no short row -/
theorem Seen.long (x : Seen rs A es n 0) {k : List Int} (hk : k ∉ es.map (·.1)) {r : List Int} (L : Least rs A k r) : n ≤ r.length := by
  refine Nat.le_of_not_lt fun h => hk ?_
  obtain ⟨e, he, q1, _⟩ := x.told r L.1 (.inl h)
  exact List.mem_map.mpr ⟨e, he, by rw [q1, L.2.1]⟩
end
end Lk

set_option Elab.async false
set_option linter.all false
set_option maxRecDepth 100000
set_option maxHeartbeats 4000000
namespace Lk
open PySem L2
mutual
theorem dv_dp {K : PySem.W.Frag} {H : Hp} : ∀ {v : V} {d : PyData}, Dv H v d → PyData.canLay0 d = true → Dp K H v d
  | _, _, .non, _ => .non
  | _, _, .bl b, _ => .bl b
  | _, _, .int i, _ => .int i
  | _, _, .str x, _ => .str x
  | _, _, .lst h t, e => .lst (SqL.of h) (dv_dpAll t e)
  | _, _, .tup h t, e => .tup (SqT.of h) (dv_dpAll t e)
  | _, _, .dct h, e => by cases e
theorem dv_dpAll {K : PySem.W.Frag} {H : Hp} : ∀ {vs : List V} {ds : List PyData}, DvAll H vs ds → PyData.canLayAll0 ds = true → DpAll K H vs ds
  | _, _, .nil, _ => .nil
  | _, _, .cons (d := d) (ds := ds) h t, e => by
    have e' : (PyData.canLay0 d && PyData.canLayAll0 ds) = true := e
    rw [Bool.and_eq_true] at e'
    exact .cons (dv_dp h e'.1) (dv_dpAll t e'.2)
end
theorem Game.mok {CM : Addr} {H : Hp} {d l a m : Addr} {A : Nat} {ts us : List (Addr × List Int)} (g : Game CM H d l a m A ts us) : MOk (A : Int) us := by
  have h5 := g.A5
  have h0 := g.A0
  have e : us.length = ts.length := by rw [← rsOf_len us, g.e, rsOf_len]
  have hz := g.hz
  exact ⟨by omega, by omega, by omega, by rw [Int.toNat_natCast, g.e]; exact g.R.rs⟩
theorem iteS {y z : Str} {A B : Prop} (e : y = z) (k : B) : if (!decide (V.str y = V.str z)) = true then A else B := by
  rw [e, decide_eq_true rfl]
  exact iteF k
def bStr (b : Bool) : Str := if b then "True" else "False"
def rReprB : List V → Hp → VK → Prop := fun xs H Q => ∃ b, xs = [.bl b] ∧ Q (.str (bStr b)) H
theorem call_reprB {X : Cx} : CallR X (.builtin "repr") rReprB := by
  intro pins s σ H xs us Q I r h
  obtain ⟨b, rfl, q⟩ := h
  obtain ⟨u, rfl, ru⟩ := Vals.one r
  cases ru
  refine PySem.P.repr_of_bool ⟨.str (bStr b), H, I.tok _, ?_, q⟩
  unfold bStr
  cases b
  · exact ⟨s.toks, rfl⟩
  · exact ⟨s.toks, rfl⟩
theorem sh_word {s : Str} {k : Int} (h1 : (PyData.str s).showable = true) (h2 : (PyData.str s).leavesShort 13 = true) (h3 : (PyData.str s).weight ≤ 100) (h : k.natAbs < 2 ^ 30) : Sh (.tuple [.str s, .int k]) := by
  obtain ⟨g1, g2⟩ := show_int h
  have g3 := weight_int h
  refine ⟨?_, rfl, ?_, ?_, by show max 0 (max 0 0) + 1 ≤ 8; decide⟩
  · show ((PyData.str s).showable && ((PyData.int k).showable && true)) = true
    rw [h1, g1] <;> rfl
  · show ((PyData.str s).leavesShort 13 && ((PyData.int k).leavesShort 13 && true)) = true
    rw [h2, g2] <;> rfl
  · show (PyData.str s).weight + 1 + ((PyData.int k).weight + 1 + 0) ≤ 1000000
    omega
theorem sbS {d l : Addr} {H H' : Hp} (S : Same H H') : SB d l H H' := (KP.same S).sb
theorem DealAt.off {H : Hp} {d l t : Addr} {ys : List V} (D : DealAt H d l) (h : H t = some (.tup ys)) : ¬ dl d l t := by
  obtain ⟨bs, b, x⟩ := D
  rintro (e | e)
  · rw [e, x.hd] at h
    cases h
  · rw [e, x.hl] at h
    cases h
theorem bool_eq {a b : Bool} {P : Prop} (h1 : a = true ↔ P) (h2 : b = true ↔ P) : a = b := by
  cases a <;> cases b
  · rfl
  · exact absurd (h1.mpr (h2.mp rfl)) (by decide)
  · exact absurd (h2.mpr (h1.mp rfl)) (by decide)
  · rfl
theorem pick4 {a b c d v : V} {i : Nat} {P : V → Prop} (h : [a, b, c, d][i]? = some v) (ha : P a) (hb : P b) (hc : P c) (hd : P d) : P v := by
  match i, h with
  | 0, h => exact (Option.some.inj h) ▸ ha
  | 1, h => exact (Option.some.inj h) ▸ hb
  | 2, h => exact (Option.some.inj h) ▸ hc
  | 3, h => exact (Option.some.inj h) ▸ hd
  | n + 4, h => simp at h
theorem out_never {P : Program} {w : World} {X : Cx} : ∀ σ, PassesAt (L2.CX P w) X σ ((fun _ => E0) σ) := fun _ _ _ _ _ _ _ ⟨_, _, _, _, _, _, _, _, _, _, _, _, he⟩ => he.elim
theorem badV_ints {A : Int} : ∀ {ns : List Int} {i : Nat}, (∀ c ∈ ns, 0 ≤ c ∧ c < A) → badV A (ns.map PyData.int) i = none
  | [], i, _ => rfl
  | c :: ns, i, h => by
    obtain ⟨c0, c1⟩ := h c List.mem_cons_self
    rw [List.map_cons, badV_cons, if_pos (by show (decide (0 ≤ c) && decide (c < A)) = true; rw [decide_eq_true c0, decide_eq_true c1] <;> rfl)]
    exact badV_ints fun z hz => h z (List.mem_cons_of_mem _ hz)
theorem ints_back (ns : List Int) : (ns.map PyData.int).map intD = ns := by
  rw [List.map_map]
  have : (intD ∘ PyData.int) = id := rfl
  rw [this, List.map_id]
theorem slA_any {K : PySem.W.Frag} {H : Hp} {a : Addr} {ls : List Int} {lo hi : Option Int} {Q : VK} (h : H a = some (.tup (ls.map V.int))) (k : ∀ (H' : Hp) (t : Addr) (ms : List Int), Same H H' → H' t = some (.tup (ms.map V.int)) → ms.length ≤ ls.length → (∀ z ∈ ms, z ∈ ls) → Q (.ref t) H') : rSlA K (.ref a) lo hi H Q := by
  refine ⟨a, _, rfl, SqT.of h, fun _ => k H a ls (Same.refl _) h (Nat.le_refl _) fun _ z => z, fun _ p hp => ?_⟩
  refine k _ p ((ls.drop (HT.sIx (ls.map V.int).length 0 lo)).take (HT.sIx (ls.map V.int).length (ls.map V.int).length hi - HT.sIx (ls.map V.int).length 0 lo)) (Same.new hp) ?_ ?_ fun z hz => List.mem_of_mem_drop (List.mem_of_mem_take hz)
  · rw [upd_same]
    unfold cutV
    rw [← List.map_drop, ← List.map_take]
  · rw [List.length_take, List.length_drop]
    omega
theorem eqv_lists (a b : List Int) : PyData.eqv (.list (a.map PyData.int)) (.list (b.map PyData.int)) = decide (a = b) := eqv_ints a b
theorem eqv_tups (a b : List Int) : PyData.eqv (.tuple (a.map PyData.int)) (.tuple (b.map PyData.int)) = decide (a = b) := eqv_ints a b
theorem inV_ints {z : Int} : ∀ {ys : List Int}, z ∈ ys → inV (.int z) (ys.map V.int) = true
  | y :: ys, h => by
    unfold inV
    rw [List.map_cons, List.any_cons, Bool.or_eq_true]
    rcases List.mem_cons.mp h with rfl | h
    · exact .inl (decide_eq_true rfl)
    · exact .inr (inV_ints h)

abbrev gR : List V → List V → List V := fun vs zs => vs ++ zs.reverse
abbrev uR : List Value → List Value → List Value := fun us ws => us ++ ws.reverse
theorem sh_tups {rs : List (List Int)} (h : ∀ r ∈ rs, r.length ≤ 5 ∧ ∀ z ∈ r, z.natAbs < 2 ^ 30) (hl : rs.length ≤ 1000) : Sh (.tuple (rs.map rowP)) := by
  obtain ⟨h1, h2, h3, h4⟩ := show_rows h
  refine ⟨h1, h2, h3, ?_, ?_⟩
  · show PyData.weightAll (rs.map rowP) ≤ 1000000
    omega
  · have e : (PyData.tuple (rs.map rowP)).depth = PyData.depthAll (rs.map rowP) + 1 := rfl
    have := depth_rows rs
    omega
theorem dpAll_rows {K : PySem.W.Frag} {H : Hp} : ∀ {ts : List (Addr × List Int)}, (∀ t ∈ ts, H t.1 = some (.tup (t.2.map V.int))) → DpAll K H (ts.map fun t => V.ref t.1) ((ts.map (·.2)).map rowP)
  | [], _ => .nil
  | t :: ts, h => .cons (.tup (SqT.of (h t List.mem_cons_self)) (dpAll_ints _)) (dpAll_rows fun u hu => h u (List.mem_cons_of_mem _ hu))
theorem kers_small {rs : List (List Int)} {A : Nat} {kt : List (Addr × List Int)} (hn : rs.length ≤ 5) (x : Kers rs A kt) : ∀ r ∈ kt.map (·.2), r.length ≤ 5 ∧ ∀ z ∈ r, z.natAbs < 2 ^ 30 := fun r hr => by
  obtain ⟨t, ht, rfl⟩ := List.mem_map.mp hr
  obtain ⟨ns, _, e⟩ := x.ker t ht
  rw [e]
  refine ⟨by rw [kerR_len]; exact hn, fun z hz => ?_⟩
  have := kerR_in z hz
  omega
end Lk

set_option Elab.async false
set_option linter.all false
set_option maxRecDepth 100000
set_option maxHeartbeats 8000000
namespace Lk
open PySem L2
abbrev s_row_of_kernel : Stmt := top 28
abbrev N_row_of_kernel : List Str := ["machine", "value", "each", "start", "came", "level", "following", "command", "done", "behind", "ahead"]
abbrev P_row_of_kernel : List Str := ["machine", "value"]
theorem sc_row_of_kernel : FnScope N_row_of_kernel P_row_of_kernel (defScope s_row_of_kernel) := ⟨rfl, rfl, rfl, by decide +kernel, rfl, by decide +kernel, by decide +kernel⟩
def spRowOf (CM : Addr) : Sp := fun vs H Q _ => ∃ (m : Addr) (x : V) (dd : PyData) (A : Int) (us : List (Addr × List Int)), vs = [.ref m, x] ∧ MachAt CM H m A us ∧ MOk A us ∧ us.length ≤ 5 ∧ Dv H x dd ∧ (itemsD dd).length ≤ 1000 ∧
  (∀ H', Same H H' → (∀ ns, InA A.toNat ns → dd ≠ .tuple ((kerR (rsOf us) ns).map PyData.int)) → Q .non H') ∧
  (∀ H' t k r, Same H H' → dd = .tuple (k.map PyData.int) → Least (rsOf us) A.toNat k r → r.length ≤ 52 → H' t = some (.tup (r.map V.int)) → Q (.ref t) H')
theorem pints_inj : ∀ {a b : List Int}, a.map PyData.int = b.map PyData.int → a = b := fun {a b} e => by
  have := congrArg (List.map intD) e
  rw [intD_ints, intD_ints] at this
  exact this
section
variable {P : Program} {w : World} {K : PySem.W.Frag} {mg : Str → Option Value} {base : Heap} {CM : Addr}
theorem ok_rowOf {f fe fr fa fv ft : Addr} {fd fde fdr fda fdv fdt : FuncData} (A0 : Df K mg "row_of_kernel" s_row_of_kernel f fd P_row_of_kernel) (d_effects : Df K mg "effects" s_effects fe fde P_effects) (d_resting : Df K mg "resting" s_resting fr fdr P_resting) (d_kernel_ahead : Df K mg "kernel_ahead" s_kernel_ahead fa fda P_kernel_ahead) (d_is_division : Df K mg "is_division" s_is_division fv fdv P_is_division) (d_row_told : Df K mg "_row_told" s_row_told ft fdt P_row_told)
    (G_kernel_ahead : FnOk P w K mg base CX0 2 fa fda P_kernel_ahead spAhead) (G_is_division : FnOk P w K mg base CX0 7 fv fdv P_is_division (spDiv CM)) (G_row_told : FnOk P w K mg base CX0 1 ft fdt P_row_told spTold) (T : Txt mg) (TC : TxC K CM) : FnOk P w K mg base CX0 8 f fd P_row_of_kernel (spRowOf CM) := by
  have G_effects : FnOk P w K mg base CX0 1 fe fde P_effects (spEffects CM) := ok_effects d_effects T TC
  have G_resting : FnOk P w K mg base CX0 1 fr fdr P_resting (spResting CM) := ok_resting d_resting T TC
  refine A0.F.ok sc_row_of_kernel (fun vs H Q E h => ?_) (fun cdv Ar outer s H vs Q E hr h => ?_)
  · obtain ⟨m, x, dd, A, us, rfl, _⟩ := h
    rfl
  · obtain ⟨m, x, dd, A, us, rfl, M, O, hz, D, hd1, kN, kY⟩ := h
    have hu : Ar.units + 3 + 64 < cLine := by have := hr.un; simp only [Around.deeper] at this; omega
    have hu1 : Ar.units + 3 + 1 < cLine := by omega
    refine ⟨_, (pss_cons (ps_if (pt_not (pt_val (pe_call G_is_division (hr.mono (by decide)) rfl d_is_division.g d_is_division.F.kp d_is_division.b .nil pass0 (pa_cons (pv 0) (pa_cons (pv 1) pa_nil))))) (pss_one (ps_ret pe_non)) pss_nil)
    (pss_cons (ps_set (i := 2) sc_row_of_kernel.nd rfl (Or.inl rfl) (pe_call G_effects (hr.mono (by decide)) rfl d_effects.g d_effects.F.kp d_effects.b .nil pass0 (pa_cons (pv 0) pa_nil)))
    (pss_cons (ps_set (i := 3) sc_row_of_kernel.nd rfl (Or.inl rfl) (pe_call G_resting (hr.mono (by decide)) rfl d_resting.g d_resting.F.kp d_resting.b .nil pass0 (pa_cons (pv 0) pa_nil)))
    (pss_cons (ps_set (i := 4) sc_row_of_kernel.nd rfl (Or.inl rfl) (pe_dispT hu1 (pv 3) (pe_tup pa_nil)))
    (pss_cons (ps_set (i := 5) sc_row_of_kernel.nd rfl (Or.inl rfl) (pe_lst (pa_cons (pv 3) pa_nil)))
    (pss_cons (ps_while PassesOwn.never (PW.pt (pw_and (pt_truth (pv 5) (fun _ => rfl)) (pw_and1 (pt_cmp (pc_dnotin hu1 (pv 1) (pv 4))))))
      (pss_cons (ps_set (i := 6) sc_row_of_kernel.nd rfl (Or.inl rfl) (pe_lst pa_nil))
      (pss_cons (ps_for PassesOwn.never rfl (pi_enumT (by rfl) T.enumerate (pa_cons (pv 2) pa_nil)) (pg_tup rfl (pgs_cons (pg_name (i := 7) sc_row_of_kernel.nd rfl (Or.inl rfl)) (pgs_cons (pg_name (i := 8) sc_row_of_kernel.nd rfl (Or.inl rfl)) pgs_nil)))
        (pss_one (ps_for PassesOwn.never rfl (pi_list (pv 5)) (pg_name (i := 9) sc_row_of_kernel.nd rfl (Or.inl rfl))
          (pss_cons (ps_set (i := 10) sc_row_of_kernel.nd rfl (Or.inl rfl) (pe_call G_kernel_ahead (hr.mono (by decide)) rfl d_kernel_ahead.g d_kernel_ahead.F.kp d_kernel_ahead.b .nil pass0 (pa_cons (pv 8) (pa_cons (pv 9) pa_nil))))
          (pss_one (ps_if (pt_cmp (pc_dnotin hu1 (pv 10) (pv 4))) (pss_cons (ps_dput hu1 (pv 4) (pv 10) (pe_tup (pa_cons (pv 7) (pa_cons (pv 9) pa_nil))) rfl)
            (pss_one (ps_expr (pe_bm PySem.F.plainAttrs_list PySem.F.slot_list_append PySem.F.type_list_append mt_append (pv 6) (pa_cons (pv 10) pa_nil))))) pss_nil))))))
      (pss_one (ps_set (i := 5) sc_row_of_kernel.nd rfl (Or.inl rfl) (pv 6))))))
    (pss_cons (ps_if (pt_cmp (pc_dnotin hu1 (pv 1) (pv 4))) (pss_one (ps_ret pe_non)) pss_nil)
    (pss_one (ps_ret (pe_call G_row_told (hr.mono (by decide)) rfl d_row_told.g d_row_told.F.kp d_row_told.b .nil pass0 (pa_cons (pv 4) (pa_cons (pv 1) pa_nil)))))))))))), ?_⟩
    have lr : (rsOf us).length = us.length := rsOf_len us
    have O' := O.rs
    have a1 := O.a1
    have a0 := O.a0
    have hu5 : (rsOf us).length ≤ 5 := by rw [lr]; exact hz
    refine ⟨_, rfl, _, rfl, m, x, dd, A, us, rfl, M, D, hd1, fun H1 b S1 hb => ⟨b, rfl, ?_⟩⟩
    cases b with
    | false =>
      refine iteT (kN H1 S1 fun ns ha e => ?_)
      have := hb.mpr ⟨_, e, by rw [kerR_len, lr], ker_ker _⟩
      cases this
    | true =>
      obtain ⟨kk, rfl, hl, cn⟩ := hb.mp rfl
      cases D with
      | @tup a xs ds ha hx =>
      have ex : xs = kk.map V.int := by
        have := hx.ints (n := (us.length : Int)) (isB_ints fun z hzm => by rw [← hl]; exact canon_range cn hzm)
        rw [this, intD_ints]
      subst ex
      have ha1 := S1 _ _ ha
      refine iteF ⟨_, rfl, m, A, us, rfl, M.same S1, O, fun H2 et ec S2 het ecl ecr ecc => ?_⟩
      refine ⟨_, rfl, m, A, us, rfl, (M.same S1).same S2, by omega, fun st hst => ?_⟩
      have hid : rng us.length = kerR (rsOf us) [] := by
        rw [kerR_nil, lr]
        rfl
      rw [hid]
      obtain ⟨H3, eH3⟩ : ∃ H3, H3 = upd H2 st (HO.tup ((kerR (rsOf us) []).map V.int)) := ⟨_, rfl⟩
      have S3 : Same H H3 := by rw [eH3]; exact (S1.trans S2).trans (Same.new hst)
      have gst : H3 st = some (.tup ((kerR (rsOf us) []).map V.int)) := by rw [eH3]; exact upd_same
      have get : H3 et = some (.tup (ec.map fun u => V.ref u.1)) := by rw [eH3]; exact nk het hst
      have gec : ∀ u ∈ ec, H3 u.1 = some (.tup (u.2.map V.int)) := fun u hu => by rw [eH3]; exact nk (ecr u hu) hst
      have ga : H3 a = some (.tup (kk.map V.int)) := by rw [eH3]; exact nk (S2 _ _ ha1) hst
      rw [← eH3]
      clear eH3 hst het ecr
      refine fun d hd => ⟨_, rfl, Nat.zero_le _, fun e0 he0 => ⟨(kerR (rsOf us) []).map Sum.inl, st, rfl, ?_, ?_, ?_⟩⟩
      · rw [upd_ne (ne_of_none upd_same he0)]
        exact upd_same
      · rw [kv_ints, upd_ne (ne_of_none (show upd H3 d (HO.dT []) st = _ from (Same.new hd) _ _ gst) he0)]
        exact (Same.new hd) _ _ gst
      have he0' : H3 e0 = none := ff hd he0
      have nde : d ≠ e0 := ne_of_none upd_same he0
      have SIe : Same H3 (upd (upd H3 d (HO.dT [])) e0 (HO.tup [])) := (Same.new hd).trans (Same.new he0)
      obtain ⟨H4, eH4⟩ : ∃ H4, H4 = upd (upd (upd H3 d (HO.dT [])) e0 (HO.tup [])) d (HO.dT [((kerR (rsOf us) []).map Sum.inl, V.ref e0)]) := ⟨_, rfl⟩
      have S4 : Same H3 H4 := by rw [eH4]; exact ((KP.same (S := fun _ => False) SIe).mut hd).toSame
      have X0 : SeaS H3 H4 (rsOf us) A.toNat d [(kerR (rsOf us) [], e0, [])] 0 0 := by
        refine ⟨S4, hd, ⟨by rw [eH4]; exact upd_same, fun e he => ?_⟩, fun e he => ?_, by simp, fun r hr hl => ?_⟩
        · rw [List.mem_singleton.mp he]
          refine .inl ⟨rfl, ?_⟩
          rw [eH4, upd_ne nde.symm]
          exact upd_same
        · rw [List.mem_singleton.mp he]
          exact ⟨⟨fun c hc => (by cases hc), rfl⟩, Nat.lt_succ_self _, Nat.le_refl _⟩
        · have : r = [] := List.length_eq_zero_iff.mp (by omega)
          subst this
          exact ⟨_, List.mem_singleton_self _, rfl, .inl rfl⟩
      rw [← eH4]
      clear eH4 SIe nde he0' he0
      refine ⟨_, rfl, by show 1 ≤ sizeLine; decide, fun l0 hl0 => ?_⟩
      have S5 : Same H4 (upd H4 l0 (.lst [V.ref st])) := Same.new hl0
      have X1 := X0.same S5
      have V1 : LvA (upd H4 l0 (.lst [V.ref st])) l0 [(kerR (rsOf us) [], e0, [])] [(st, (kerR (rsOf us) [], e0, []))] 0 := by
        refine ⟨⟨upd_same, fun t ht => ?_⟩, fun p hp => ?_, fun e he _ => ?_, List.pairwise_singleton _ _⟩
        · rw [List.mem_singleton.mp ht]
          exact S5 _ _ (S4 _ _ gst)
        · rw [List.mem_singleton.mp hp]
          exact ⟨List.mem_singleton_self _, rfl⟩
        · rw [List.mem_singleton.mp he]
          exact ⟨_, List.mem_singleton_self _, rfl⟩
      obtain ⟨H5, eH5⟩ : ∃ H5, H5 = upd H4 l0 (HO.lst [V.ref st]) := ⟨_, rfl⟩
      rw [← eH5] at X1 V1
      refine heapEq (F := fun U => gName 5 (V.ref l0) _ U _) eH5.symm ?_
      have hl3 : H3 l0 = none := S4.free hl0
      clear eH5 hl0 S5 X0 S4 H4
      refine normG (σ' := [some (.ref m), some (.ref a), some (.ref et), some (.ref st), some (.ref d), none, none, none, none, none, none]) rfl ?_
      have kyk : (kk.map Sum.inl : List Key).map kV = kk.map V.int := kv_ints _
      refine ⟨fun μ σ U => ∃ (es : List Ent) (lv : List Lvl) (n : Nat) (l : Addr) (v6 v7 v8 v9 v10 : Option V), σ = [some (.ref m), some (.ref a), some (.ref et), some (.ref st), some (.ref d), some (.ref l), v6, v7, v8, v9, v10] ∧ SeaS H3 U (rsOf us) A.toNat d es n n ∧ LvA U l es lv n ∧ H3 l = none ∧ μ = 2 * (52 - es.length) + (if lv = [] then 0 else 1),
        ⟨_, _, _, _, l0, none, none, none, none, none, rfl, X1, V1, hl3, rfl⟩, ?_⟩
      clear X1 V1 hl3
      rintro μ σ U ⟨es, lv, n, l, v6, v7, v8, v9, v10, rfl, X, Vl, hl0, rfl⟩
      have lfew := X.few hu5
      have hgv : ∀ {U' : Hp} {es' : List Ent}, Same H3 U' → CameAt U' d es' → DGet U' d (V.ref a) (valV (es'.map kvOf) (kk.map Sum.inl)) := fun S C => DGet.t C.top (by rw [kyk]; exact S _ _ ga)
      have fin : kk ∉ es.map (·.1) → lv = [] → ∀ ns, InA A.toNat ns → PyData.tuple (kk.map PyData.int) ≠ .tuple ((kerR (rsOf us) ns).map PyData.int) := fun h1 h2 ns hns e => by
        refine h1 ?_
        have e : kk.map PyData.int = (kerR (rsOf us) ns).map PyData.int := by injection e
        rw [pints_inj e]
        refine X.all O' (fun e he hn => ?_) ns hns
        obtain ⟨p, hp, _⟩ := Vl.all e he hn
        rw [h2] at hp
        cases hp
      have S03 : ∀ {U' : Hp}, Same H3 U' → Same H U' := fun S => S3.trans S
      by_cases hv : lv = []
      · subst hv
        refine ⟨_, rfl, false, .inl ⟨_, SqL.of Vl.L.top, rfl⟩, iteF (iteF ?_)⟩
        refine ⟨_, rfl, _, rfl, d, _, rfl, hgv X.S X.C, _, rfl, ?_⟩
        rw [val_is]
        by_cases hin : kk ∈ es.map (·.1)
        · obtain ⟨e, he, ek⟩ := List.mem_map.mp hin
          have hkx := X.ker e he
          rw [decide_eq_true hin]
          exact iteF ⟨_, rfl, _, rfl, d, a, es, e, rfl, X.C, X.nd, he, by rw [ek]; exact X.S _ _ ga, by omega, fun H' t S ht => kY H' t kk e.2.2 ((S03 X.S).trans S) rfl (by rw [← ek]; exact X.least he) (by omega) ht⟩
        · rw [decide_eq_false hin]
          exact iteT (kN _ (S03 X.S) (fin hin rfl))
      refine ⟨_, rfl, true, .inl ⟨_, SqL.of Vl.L.top, by cases lv with | nil => exact absurd rfl hv | cons _ _ => rfl⟩, iteT ⟨_, rfl, _, rfl, d, _, rfl, hgv X.S X.C, _, rfl, ?_⟩⟩
      rw [val_is]
      by_cases hin : kk ∈ es.map (·.1)
      · obtain ⟨e, he, ek⟩ := List.mem_map.mp hin
        have hkx := X.ker e he
        rw [decide_eq_true hin]
        refine iteF ⟨_, rfl, _, rfl, d, _, rfl, hgv X.S X.C, _, rfl, ?_⟩
        rw [val_is, decide_eq_true hin]
        exact iteF ⟨_, rfl, _, rfl, d, a, es, e, rfl, X.C, X.nd, he, by rw [ek]; exact X.S _ _ ga, by omega, fun H' t S ht => kY H' t kk e.2.2 ((S03 X.S).trans S) rfl (by rw [← ek]; exact X.least he) (by omega) ht⟩
      rw [decide_eq_false hin]
      rw [if_neg hv]
      refine iteT ⟨fun σ' U => ∃ μ', μ' < 2 * (52 - es.length) + 1 ∧ ∃ (es : List Ent) (lv : List Lvl) (n : Nat) (l : Addr) (v6 v7 v8 v9 v10 : Option V), σ' = [some (.ref m), some (.ref a), some (.ref et), some (.ref st), some (.ref d), some (.ref l), v6, v7, v8, v9, v10] ∧ SeaS H3 U (rsOf us) A.toNat d es n n ∧ LvA U l es lv n ∧ H3 l = none ∧ μ' = 2 * (52 - es.length) + (if lv = [] then 0 else 1), fun _ _ h => h, ?_⟩
      refine ⟨Nat.zero_le _, fun ff0 hff => ?_⟩
      refine norm (σ' := [some (.ref m), some (.ref a), some (.ref et), some (.ref st), some (.ref d), some (.ref l), some (.ref ff0), v7, v8, v9, v10]) rfl ?_
      have XI : SeaI H3 (upd U ff0 (HO.lst [])) (rsOf us) A.toNat d l ff0 n es.length es lv [] 0 0 := by
        have Sf : Same U (upd U ff0 (HO.lst [])) := Same.new hff
        refine ⟨⟨X.S.trans Sf, X.d0, X.C.same Sf, fun e he => ⟨(X.ker e he).1, (X.ker e he).2.1, by have := (X.ker e he).2.2; omega⟩, X.nd, X.told⟩, X.S.free hff, ne_of_none Vl.L.top hff, Vl.same Sf, ⟨⟨upd_same, fun t ht => (by cases ht)⟩, fun p hp => (by cases hp), fun e he hl => ?_, .nil⟩, Nat.zero_add _, fun p hp => (by cases hp), fun c j' q _ h => by omega⟩
        have := (X.ker e he).2.2
        omega
      obtain ⟨U2, eU2⟩ : ∃ U2, U2 = upd U ff0 (HO.lst []) := ⟨_, rfl⟩
      rw [← eU2] at XI ⊢
      clear eU2 hff Vl X fin
      obtain ⟨k0, ek0⟩ : ∃ k0, k0 = es.length := ⟨_, rfl⟩
      rw [← ek0] at XI lfew ⊢
      clear hin ek0
      have wk := walk_enumT (K := K) (a := et) (xs := ec.map fun u : Addr × List Int => V.ref u.1)
      rw [List.length_map] at wk
      have lec : ec.length = A.toNat := by omega
      refine ⟨_, rfl, et, _, rfl, SqT.of (XI.X.S _ _ get), ?_⟩
      refine for_it wk (fun i σ U => ∃ (es : List Ent) (fw : List Lvl) (v7 v8 v9 v10 : Option V), σ = [some (.ref m), some (.ref a), some (.ref et), some (.ref st), some (.ref d), some (.ref l), some (.ref ff0), v7, v8, v9, v10] ∧ SeaI H3 U (rsOf us) A.toNat d l ff0 n k0 es lv fw i 0) ⟨es, [], v7, v8, v9, v10, rfl, XI⟩ (fun i σ U _ h => by
        obtain ⟨_, _, _, _, _, _, _, X⟩ := h
        exact SqT.of (X.X.S _ _ get)) ?_ ?_
      · clear XI v7 v8 v9 v10 es U2
        rintro i v σ U2 U3 hi ⟨es, fw, v7, v8, v9, v10, rfl, X⟩ ⟨T1, x1, y1, rfl, hT, rfl, ex, ey⟩
        obtain rfl := (Option.some.inj ex).symm
        have hci := List.getElem?_eq_getElem hi
        have ey : (ec.map fun u : Addr × List Int => V.ref u.1)[i]? = some y1 := ey
        rw [List.getElem?_map, hci] at ey
        obtain rfl := Option.some.inj ey
        obtain ⟨u, eu⟩ : ∃ u, u = ec[i] := ⟨_, rfl⟩
        rw [← eu] at hci ⊢
        have hum := List.mem_of_getElem? hci
        have hcol := ecc i u hci
        replace X := X.same (Same.new (o := HO.tup [V.int (i : Int), V.ref u.1]) hT)
        refine ⟨T1, _, rfl, SqT.of upd_same, rfl, _, _, rfl, _, _, rfl, rfl, ?_⟩
        obtain ⟨U4, eU4⟩ : ∃ U4, U4 = upd U2 T1 (HO.tup [V.int (i : Int), V.ref u.1]) := ⟨_, rfl⟩
        rw [← eU4] at X ⊢
        clear eU4 hT
        refine norm (σ' := [some (.ref m), some (.ref a), some (.ref et), some (.ref st), some (.ref d), some (.ref l), some (.ref ff0), some (.int (i : Int)), some (.ref u.1), v9, v10]) rfl ?_
        refine ⟨_, rfl, l, rfl, ⟨_, SqL.of X.Lv.L.top⟩, for_list (K := K) (a := l) (xs := (lvT lv).map fun t => V.ref t.1) (fun j σ U => ∃ (es : List Ent) (fw : List Lvl) (v9 v10 : Option V), σ = [some (.ref m), some (.ref a), some (.ref et), some (.ref st), some (.ref d), some (.ref l), some (.ref ff0), some (.int (i : Int)), some (.ref u.1), v9, v10] ∧ SeaI H3 U (rsOf us) A.toNat d l ff0 n k0 es lv fw i j) ⟨es, fw, v9, v10, rfl, X⟩ (fun j σ U _ h => by
          obtain ⟨_, _, _, _, _, X⟩ := h
          exact SqL.of X.Lv.L.top) ?_ ?_⟩
        · clear X v9 v10 es fw U4
          rintro j x σ U5 hx ⟨es, fw, v9, v10, rfl, X⟩
          unfold lvT at hx
          rw [List.map_map, List.getElem?_map] at hx
          obtain ⟨q, hq, hqx⟩ := Option.map_eq_some_iff.mp hx
          have hqx : V.ref q.1 = x := hqx
          subst hqx
          have hqm := List.mem_of_getElem? hq
          obtain ⟨hqe, hql⟩ := X.Lv.mem q hqm
          have hqk := (X.X.ker q.2 hqe).1.2
          have ht := X.Lv.L.row (q.1, q.2.1) (List.mem_map.mpr ⟨q, hqm, rfl⟩)
          have hec := X.X.S _ _ (gec u hum)
          have kl : q.2.1.length = us.length := by rw [hqk, kerR_len, lr]
          have ep : atL u.2 q.2.1 = pull (rsOf us) q.2.1 (i : Int) := by
            unfold atL pull
            rw [hcol]
            unfold col
            rw [List.map_map, Int.toNat_natCast]
            rfl
          refine ⟨_, rfl, _, rfl, u.1, q.1, u.2, q.2.1, rfl, hec, ht, by rw [hcol]; unfold col; rw [List.length_map, lr]; omega, fun z hz => ?_, fun U6 ka S6 _ hka => ?_⟩
          · rw [hcol] at hz
            unfold col at hz
            obtain ⟨r, hr, rfl⟩ := List.mem_map.mp hz
            obtain ⟨r1, r2⟩ := O'.row r hr
            have := r2 (r.getD i 0) (by rw [List.getD_eq_getElem?_getD, List.getElem?_eq_getElem (show i < r.length by omega)]; exact List.getElem_mem _)
            rw [lr] at this
            omega
          have hka : U6 ka = some (.tup ((kerR (rsOf us) ((i : Int) :: q.2.2.2)).map V.int)) := by
            rw [← ker_pull O' (by omega) (by omega), ← hqk, ← ep]
            exact hka
          replace X := X.same S6
          have kyn : ((kerR (rsOf us) ((i : Int) :: q.2.2.2)).map Sum.inl : List Key).map kV = (kerR (rsOf us) ((i : Int) :: q.2.2.2)).map V.int := kv_ints _
          refine ⟨_, rfl, _, rfl, d, _, rfl, DGet.t X.X.C.top (by rw [kyn]; exact hka), _, rfl, ?_⟩
          rw [val_is]
          have hes : es.length ≤ 52 := X.X.few hu5
          by_cases hk : kerR (rsOf us) ((i : Int) :: q.2.2.2) ∈ es.map (·.1)
          · rw [decide_eq_true hk]
            exact iteF ⟨es, fw, _, _, rfl, X.pass hq hk⟩
          · rw [decide_eq_false hk]
            refine iteT ⟨_, rfl, _, rfl, by show 2 ≤ sizeLine; decide, fun va hva => ?_⟩
            have S7 : Same U6 (upd U6 va (HO.tup [V.int (i : Int), V.ref q.1])) := Same.new hva
            have X7 := X.same S7
            have hka7 := S7 _ _ hka
            have hpn : valV (es.map kvOf) ((kerR (rsOf us) ((i : Int) :: q.2.2.2)).map Sum.inl) = none := val_none.mpr hk
            refine ⟨_, rfl, _, rfl, d, _, rfl, DPut.t (k := (kerR (rsOf us) ((i : Int) :: q.2.2.2)).map Sum.inl) X7.X.C.top (by rw [kyn]; exact hka7) (Nat.lt_of_le_of_lt (show _ ≤ 52 by rw [List.length_map]; exact hes) (by decide)), ?_⟩
            rw [putK_new _ hpn]
            have X8 := X7.add (by omega) hq (va := va) (ka := ka) upd_same hka7 hk
            rw [List.map_append] at X8
            have hl8 : upd (upd U6 va (HO.tup [V.int (i : Int), V.ref q.1])) d (HO.dT (es.map kvOf ++ [((kerR (rsOf us) ((i : Int) :: q.2.2.2)).map Sum.inl, V.ref va)])) ff0 = some (.lst ((lvT fw).map fun t => V.ref t.1)) := by
              rw [upd_ne (ne_of X7.Fw.L.top X7.X.C.top (fun z => nomatch z))]
              exact X7.Fw.L.top
            refine ⟨_, rfl, .inl ⟨rfl, _, SqL.of hl8⟩, _, rfl, ff0, _, _, rfl, rfl, hl8, Nat.lt_of_le_of_lt (show _ ≤ 52 by have := X.cnt; unfold lvT; rw [List.length_map, List.length_map]; omega) (by decide), _, _, _, _, rfl, X8⟩
        · rintro σ U5 ⟨es, fw, v9, v10, rfl, X⟩
          unfold lvT at X
          rw [List.length_map, List.length_map] at X
          exact ⟨es, fw, _, _, _, _, rfl, X.next⟩
      · rintro σ U5 ⟨es', fw, v7, v8, v9, v10, rfl, X⟩
        rw [lec] at X
        obtain ⟨Y1, Y2⟩ := X.fin O'
        refine ⟨_, rfl, ?_⟩
        refine ⟨_, ?_, es', fw, n + 1, ff0, _, _, _, _, _, rfl, Y1, Y2, X.f0, rfl⟩
        have h1 := X.cnt
        have h2 := X.X.few hu5
        cases fw with
        | nil =>
          rw [if_pos rfl]
          rw [List.length_nil] at h1
          omega
        | cons _ _ =>
          rw [if_neg (fun q => by cases q)]
          rw [List.length_cons] at h1
          omega
end
end Lk

set_option Elab.async false
set_option linter.all false
set_option maxRecDepth 100000
set_option maxHeartbeats 4000000
namespace Lk
open PySem L2
theorem out_zero {X : Cx} : ∀ σ, PassesAt CX0 X σ ((fun _ => E0) σ) := fun _ _ _ _ _ _ _ h => h.elim
theorem slX {K : PySem.W.Frag} {H : Hp} {a : Addr} {xs : List V} {lo hi : Option Int} {Q : VK} (h : H a = some (.tup xs)) (k : ∀ H' p, Same H H' → H' p = some (.tup (cutV xs lo hi)) → Q (.ref p) H') : rSlA K (.ref a) lo hi H Q := by
  refine ⟨a, xs, rfl, SqT.of h, fun e => k H a (Same.refl _) ?_, fun _ p hp => k _ p (Same.new hp) upd_same⟩
  have e2 : cutV xs lo hi = xs := by
    unfold cutV
    rw [e.1, e.2, List.drop_zero, Nat.sub_zero, List.take_length]
  rw [e2]
  exact h
theorem pick8 {a b c d e f g k v : V} {i : Nat} {P : V → Prop} (h : [a, b, c, d, e, f, g, k][i]? = some v) (ha : P a) (hb : P b) (hc : P c) (hd : P d) (he : P e) (hf : P f) (hg : P g) (hk : P k) : P v := by
  match i, h with
  | 0, h => exact (Option.some.inj h) ▸ ha
  | 1, h => exact (Option.some.inj h) ▸ hb
  | 2, h => exact (Option.some.inj h) ▸ hc
  | 3, h => exact (Option.some.inj h) ▸ hd
  | 4, h => exact (Option.some.inj h) ▸ he
  | 5, h => exact (Option.some.inj h) ▸ hf
  | 6, h => exact (Option.some.inj h) ▸ hg
  | 7, h => exact (Option.some.inj h) ▸ hk
  | n + 8, h => simp at h
/-- what a row brings together a longer one does, too -/
theorem within_more {A : Nat} {rs : List (List Int)} (R : Rs A rs) (ns ms : List Int) : Within (kerR rs ns) (kerR rs (ns ++ ms)) := by
  intro i hi
  rw [kerR_len] at hi
  have c : kerG (kerR rs ns) = kerR rs ns := ker_ker _
  have g := List.getElem?_eq_getElem (l := kerR rs ns) (show i < (kerR rs ns).length by rw [kerR_len]; exact hi)
  obtain ⟨c0, c1, c2⟩ := canon_at c g
  have e := getD_of (d := (0 : Int)) g
  rw [e]
  obtain ⟨z, ez⟩ : ∃ z, z = (kerR rs ns)[i]'(by rw [kerR_len]; exact hi) := ⟨_, rfl⟩
  rw [← ez] at g c0 c1 c2 ⊢
  have hz : z.toNat < rs.length := by omega
  have s1 : sm (kerR rs ns) i z.toNat := by
    unfold sm
    rw [g, c2]
  have h1 := (sm_kerR hi hz).mp s1
  have h2 : sm (kerR rs (ns ++ ms)) i z.toNat := (sm_kerR hi hz).mpr (by rw [led_app, led_app, h1])
  have h3 := List.getElem?_eq_getElem (l := kerR rs (ns ++ ms)) (show i < (kerR rs (ns ++ ms)).length by rw [kerR_len]; exact hi)
  have h4 : (kerR rs (ns ++ ms))[z.toNat]? = some _ := h2.symm.trans h3
  rw [getD_of h3, getD_of h4]
/-- a tuple of data that is the kernel of a row is as long as there are states, its entries are states -/
theorem kernel_data {rs : List (List Int)} {ns : List Int} {ds : List PyData} (h : PyData.tuple ds = .tuple ((kerR rs ns).map PyData.int)) : ds.length = rs.length ∧ ∀ e ∈ ds, ∃ z : Int, e = .int z ∧ 0 ≤ z ∧ z < (rs.length : Int) := by
  have h : ds = (kerR rs ns).map PyData.int := by injection h
  rw [h]
  refine ⟨by rw [List.length_map, kerR_len], fun e he => ?_⟩
  obtain ⟨z, hz, rfl⟩ := List.mem_map.mp he
  exact ⟨z, rfl, kerR_in z hz⟩
theorem iteND {p : Prop} [Decidable p] {A B : Prop} (h : p) (k : B) : if (!decide p) = true then A else B := by
  rw [decide_eq_true h]
  exact iteF k
theorem rep_any {K : PySem.W.Frag} {H : Hp} {a : Addr} {xs : List V} {n : Nat} {Q : VK} (h : H a = some (.tup xs)) (hx : xs ≠ []) (n1 : 1 ≤ n) (n2 : n ≤ 1000) (hz : xs.length ≤ 1000) (k : ∀ H' t, Same H H' → H' t = some (.tup (List.replicate n xs).flatten) → Q (.ref t) H') : rRepA K (.ref a) (.int (n : Int)) H Q := by
  refine ⟨a, (n : Int), xs, rfl, rfl, SqT.of h, hx, by omega, by omega, hz, fun e => k H a (Same.refl _) ?_, fun _ p hp => k _ p (Same.new hp) (by rw [Int.toNat_natCast]; exact upd_same)⟩
  obtain rfl : n = 1 := by omega
  rw [h]
  simp
theorem flat_one (x : V) : ∀ n : Nat, (List.replicate n [x]).flatten = List.replicate n x
  | 0 => rfl
  | n + 1 => by
    rw [List.replicate_succ, List.flatten_cons, flat_one x n, List.replicate_succ]
    rfl
theorem dvAll_rep {H : Hp} {v : V} {e : PyData} (h : Dv H v e) : ∀ n : Nat, DvAll H (List.replicate n v) (List.replicate n e)
  | 0 => .nil
  | n + 1 => .cons h (dvAll_rep h n)
end Lk

set_option Elab.async false
set_option linter.all false
set_option maxRecDepth 100000
set_option maxHeartbeats 8000000
namespace Lk
open PySem L2
abbrev s_law : Stmt := top 47
abbrev N_law : List Str := ["script", "deal", "commands", "steps", "machine", "due", "seen", "length", "row", "found", "one", "other", "more", "place", "wrong", "many", "odd", "bad", "near"]
abbrev P_law : List Str := ["script"]
theorem sc_law : FnScope N_law P_law (defScope s_law) := ⟨rfl, rfl, rfl, by decide +kernel, rfl, by decide +kernel, by decide +kernel⟩
def spLaw (K : PySem.W.Frag) : Sp := fun vs H Q _ => ∃ (a : Addr) (ns : List Int), vs = [.ref a] ∧ SqL K H a (ns.map V.int) ∧ ns.length ≤ 63 ∧ ∀ H', Q (.bl true) H'
section
variable {P : Program} {w : World} {K : PySem.W.Frag} {mg : Str → Option Value} {base : Heap} {CM CE CW fI : Addr} {fdI : FuncData}
theorem ok_law {f fdr fan fof fma frw frs fef fkr fks flw flr fle fkn fro fwi fke : Addr} {fd gdr gan gof gma grw grs gef gkr gks glw glr gle gkn gro gwi gke : FuncData} (A0 : Df K mg "law" s_law f fd P_law)
    (d_law_draw : Df K mg "_law_draw" s_law_draw fdr gdr P_law_draw) (d_law_any : Df K mg "_law_any" s_law_any fan gan P_law_any) (d_law_of : Df K mg "_law_of" s_law_of fof gof P_law_of) (d_law_machine : Df K mg "_law_machine" s_law_machine fma gma P_law_machine) (d_law_row : Df K mg "_law_row" s_law_row frw grw P_law_row) (d_law_rows : Df K mg "_law_rows" s_law_rows frs grs P_law_rows)
    (d_law_led : Df K mg "_law_led" s_law_led fle gle P_law_led) (d_law_effect : Df K mg "_law_effect" s_law_effect fef gef P_law_effect) (d_law_kernel : Df K mg "_law_kernel" s_law_kernel fkr gkr P_law_kernel) (d_law_kernels : Df K mg "_law_kernels" s_law_kernels fks gks P_law_kernels) (d_law_within : Df K mg "_law_within" s_law_within flw glw P_law_within) (d_law_refused : Df K mg "_law_refused" s_law_refused flr glr P_law_refused)
    (d_kernels : Df K mg "kernels" s_kernels fkn gkn P_kernels) (d_row_of_kernel : Df K mg "row_of_kernel" s_row_of_kernel fro gro P_row_of_kernel) (d_is_within : Df K mg "is_within" s_is_within fwi gwi P_is_within) (d_kernel : Df K mg "kernel" s_kernel fke gke P_kernel)
    (k_kernels : KBn K gkn P_kernels 0 ["machine"] uR gR) (k_row_of_kernel : KBn K gro P_row_of_kernel 0 ["value", "machine"] uR gR) (k_is_within : KBn K gwi P_is_within 0 ["other", "one"] uR gR) (k_kernel : KBn K gke P_kernel 0 ["row", "machine"] uR gR)
    (G_law_machine : FnOk P w K mg base CX0 4 fma gma P_law_machine spMachine) (G_kernels : FnOk P w K mg base CX0 4 fkn gkn P_kernels (spKernels CM)) (G_row_of_kernel : FnOk P w K mg base CX0 8 fro gro P_row_of_kernel (spRowOf CM)) (G_kernel : FnOk P w K mg base (L2.CX P w) 8 fke gke P_kernel (spKernel CM CW)) (G_law_refused : FnOk P w K mg base CX0 9 flr glr P_law_refused (spLRefused CM))
    (MC : McT K mg CM fI fdI) (GI : FnOk P w K mg base (L2.CX P w) 7 fI fdI P_Machine___init (spInit CM CE)) (T : Txt mg) (TC : TxC K CM) (zsort : mg "sorted" = none) : FnG P w K mg base 10 f fd P_law (spLaw K) := by
  have G_law_any : FnOk P w K mg base CX0 1 fan gan P_law_any spAny := ok_any d_law_any T
  have G_law_draw : FnOk P w K mg base CX0 1 fdr gdr P_law_draw (spDraw K) := ok_draw d_law_draw T
  have G_law_of : FnOk P w K mg base CX0 2 fof gof P_law_of spOf := ok_of d_law_of d_law_any T
  have G_law_row : FnOk P w K mg base CX0 2 frw grw P_law_row spRow := ok_row d_law_row d_law_any T
  have G_law_rows : FnOk P w K mg base CX0 1 frs grs P_law_rows spRows := ok_rows d_law_rows T
  have G_law_kernel : FnOk P w K mg base CX0 3 fkr gkr P_law_kernel (spKerZ K) := ok_kerZ d_law_kernel d_law_effect d_law_led T
  have G_law_kernels : FnOk P w K mg base CX0 1 fks gks P_law_kernels spKers := ok_kernels d_law_kernels T zsort
  have G_law_within : FnOk P w K mg base CX0 1 flw glw P_law_within spLWithin := ok_lwithin d_law_within T
  have G_is_within : FnOk P w K mg base CX0 1 fwi gwi P_is_within spWithin := ok_within d_is_within T
  refine Fun.okG A0.F sc_law (fun vs H Q E h => ?_) (fun cdv Ar outer s H vs Q E quiet hr h => ?_)
  · obtain ⟨a, ns, rfl, _⟩ := h
    rfl
  · obtain ⟨sa, sn, rfl, hsa, hsn, k⟩ := h
    have hu65 : Ar.units + 3 + 65 < cLine := by have := hr.un; simp only [Around.deeper] at this; omega
    have hu64 : Ar.units + 3 + 64 < cLine := by omega
    have hu1 : Ar.units + 3 + 1 < cLine := by omega
    have hu : Ar.units + 3 + 16 < cLine := by omega
    have hq : Ar.guards = some [] := quiet
    refine ⟨_, (pss_cons (ps_set (i := 1) sc_law.nd rfl (Or.inl rfl) (pe_call G_law_draw (hr.mono (by decide)) rfl d_law_draw.g d_law_draw.F.kp d_law_draw.b .nil pass0 (pa_cons (pv 0) (pa_cons pe_int pa_nil))))
    (pss_cons (ps_asg (pe_call G_law_machine (hr.mono (by decide)) rfl d_law_machine.g d_law_machine.F.kp d_law_machine.b .nil pass0 (pa_cons (pv 1) (pa_cons pe_int pa_nil))) (pg_tup rfl (pgs_cons (pg_name (i := 2) sc_law.nd rfl (Or.inl rfl)) (pgs_cons (pg_name (i := 3) sc_law.nd rfl (Or.inl rfl)) pgs_nil))))
    (pss_cons (ps_par (i := 4) (j := 5) rfl sc_law.nd rfl rfl (by decide) rfl rfl (pa_cons (pe_make MC.mM GI (hr.mono (by decide)) rfl MC.g MC.b .nil (pass_never (P := P) (w := w)) (pa_cons (pv 2) (pa_cons (pv 3) pa_nil))) (pa_cons (pe_call G_law_kernels (hr.mono (by decide)) rfl d_law_kernels.g d_law_kernels.F.kp d_law_kernels.b .nil pass0 (pa_cons (pv 2) (pa_cons (pv 3) pa_nil))) pa_nil)) rfl)
    (pss_cons (ps_if (pt_cmpR op_ne (pe_callB (call_repr hq hu) (by rfl) T.repr (by decide +kernel) (pa_cons (by exact (pe_kw (ks := ["machine"]) G_kernels (hr.mono (by decide)) rfl d_kernels.g d_kernels.F.kp k_kernels out_zero (by exact (pk_cons (pv 4) pk_nil)))) pa_nil)) (pe_callB (call_repr hq hu) (by rfl) T.repr (by decide +kernel) (pa_cons (pe_tupleOf (by rfl) T.tuple (pv 5)) pa_nil)) (nomark _)) (pss_one (ps_ret pe_bl)) pss_nil)
    (pss_cons (ps_set (i := 6) sc_law.nd rfl (Or.inl rfl) pe_dnewT)
    (pss_cons (ps_for PassesOwn.never rfl (pi_range1 rfl T.range (pa_cons (pe_pick (pt_cmpR op_lt (pv 2) pe_int (nomark _)) pe_int pe_int) pa_nil)) (pg_name (i := 7) sc_law.nd rfl (Or.inl rfl))
      (pss_one (ps_for PassesOwn.never rfl (pi_list (pe_call G_law_rows (hr.mono (by decide)) rfl d_law_rows.g d_law_rows.F.kp d_law_rows.b .nil pass0 (pa_cons (pv 2) (pa_cons (pv 7) pa_nil)))) (pg_name (i := 8) sc_law.nd rfl (Or.inl rfl))
        (pss_cons (ps_set (i := 9) sc_law.nd rfl (Or.inl rfl) (pe_call G_law_kernel (hr.mono (by decide)) rfl d_law_kernel.g d_law_kernel.F.kp d_law_kernel.b .nil pass0 (pa_cons (pv 3) (pa_cons (pv 8) pa_nil))))
        (pss_one (ps_if (pt_cmp (pc_dnotin hu1 (pv 9) (pv 6))) (pss_one (ps_dput hu1 (pv 6) (pv 9) (pv 8) rfl)) pss_nil))))))
    (pss_cons (ps_for PassesOwn.never rfl (pi_list (pv 5)) (pg_name (i := 9) sc_law.nd rfl (Or.inl rfl))
      (pss_cons (ps_set (i := 8) sc_law.nd rfl (Or.inl rfl) (by exact (pe_kw (ks := ["value", "machine"]) G_row_of_kernel (hr.mono (by decide)) rfl d_row_of_kernel.g d_row_of_kernel.F.kp k_row_of_kernel out_zero (by exact (pk_cons (pv 9) (pk_cons (pv 4) pk_nil))))))
      (pss_cons (ps_if (PW.pt (pw_or (pt_not (pt_val (pe_callB call_isi (by rfl) T.isinstance PyProof.Rows.boot_isinstance (pa_cons (pv 8) (pa_cons (pe_bltn (v := .ty "tuple") (by rfl) T.tuple (by decide +kernel) rfl) pa_nil))))) (pw_or1 (pt_cmpR (op_neD hu64) (pe_call G_law_kernel (hr.mono (by decide)) rfl d_law_kernel.g d_law_kernel.F.kp d_law_kernel.b .nil pass0 (pa_cons (pv 3) (pa_cons (pv 8) pa_nil))) (pv 9) (nomark _))))) (pss_one (ps_ret pe_bl)) pss_nil)
      (pss_one (ps_if (PW.pt (pw_or (PW.pt (pw_and (pt_cmp (pc_din hu1 (pv 9) (pv 6))) (pw_and1 (pt_cmpR (op_neD hu64) (pv 8) (pe_dget hu1 (pv 6) (pv 9) (fun _ _ => rfl)) (nomark _))))) (pw_or1 (PW.pt (pw_and (pt_cmp (pc_dnotin hu1 (pv 9) (pv 6))) (pw_and1 (pt_cmpR op_lt (pe_callB call_len_seq (by rfl) T.len PySem.boot_len (pa_cons (pv 8) pa_nil)) (pe_pick (pt_cmpR op_lt (pv 2) pe_int (nomark _)) pe_int pe_int) (nomark _)))))))) (pss_one (ps_ret pe_bl)) pss_nil)))))
    (pss_cons (ps_par (i := 10) (j := 11) rfl sc_law.nd rfl rfl (by decide) rfl rfl (pa_cons (pe_call G_law_of (hr.mono (by decide)) rfl d_law_of.g d_law_of.F.kp d_law_of.b .nil pass0 (pa_cons (pv 1) (pa_cons (pv 5) pa_nil))) (pa_cons (pe_call G_law_of (hr.mono (by decide)) rfl d_law_of.g d_law_of.F.kp d_law_of.b .nil pass0 (pa_cons (pv 1) (pa_cons (pv 5) pa_nil))) pa_nil)) rfl)
    (pss_cons (ps_if (pt_cmpR op_ne (pe_callB call_reprB (by rfl) T.repr (by decide +kernel) (pa_cons (by exact (pe_kw (ks := ["other", "one"]) G_is_within (hr.mono (by decide)) rfl d_is_within.g d_is_within.F.kp k_is_within out_zero (by exact (pk_cons (pv 11) (pk_cons (pv 10) pk_nil))))) pa_nil)) (pe_callB call_reprB (by rfl) T.repr (by decide +kernel) (pa_cons (pe_call G_law_within (hr.mono (by decide)) rfl d_law_within.g d_law_within.F.kp d_law_within.b .nil pass0 (pa_cons (pv 10) (pa_cons (pv 11) pa_nil))) pa_nil)) (nomark _)) (pss_one (ps_ret pe_bl)) pss_nil)
    (pss_cons (ps_par (i := 8) (j := 12) rfl sc_law.nd rfl rfl (by decide) rfl rfl (pa_cons (pe_call G_law_row (hr.mono (by decide)) rfl d_law_row.g d_law_row.F.kp d_law_row.b .nil pass0 (pa_cons (pv 1) (pa_cons (pv 2) (pa_cons (pe_call G_law_any (hr.mono (by decide)) rfl d_law_any.g d_law_any.F.kp d_law_any.b .nil pass0 (pa_cons (pv 1) (pa_cons pe_int pa_nil))) pa_nil)))) (pa_cons (pe_call G_law_row (hr.mono (by decide)) rfl d_law_row.g d_law_row.F.kp d_law_row.b .nil pass0 (pa_cons (pv 1) (pa_cons (pv 2) (pa_cons (pe_call G_law_any (hr.mono (by decide)) rfl d_law_any.g d_law_any.F.kp d_law_any.b .nil pass0 (pa_cons (pv 1) (pa_cons pe_int pa_nil))) pa_nil)))) pa_nil)) rfl)
    (pss_cons (ps_set (i := 9) sc_law.nd rfl (Or.inl rfl) (by exact (pe_kw (ks := ["row", "machine"]) G_kernel (hr.mono (by decide)) rfl d_kernel.g d_kernel.F.kp k_kernel (out_never (P := P) (w := w)) (by exact (pk_cons (pe_callTy call_list_of (by rfl) T.list (by decide +kernel) (pa_cons (pv 8) pa_nil)) (pk_cons (pv 4) pk_nil))))))
    (pss_cons (ps_if (PW.pt (pw_or (pt_cmpR op_ne (pe_callB (call_repr hq hu) (by rfl) T.repr (by decide +kernel) (pa_cons (pv 9) pa_nil)) (pe_callB (call_repr hq hu) (by rfl) T.repr (by decide +kernel) (pa_cons (pe_call G_law_kernel (hr.mono (by decide)) rfl d_law_kernel.g d_law_kernel.F.kp d_law_kernel.b .nil pass0 (pa_cons (pv 3) (pa_cons (pv 8) pa_nil))) pa_nil)) (nomark _)) (pw_or1 (pt_not (pt_val (by exact (pe_callS G_is_within (hr.mono (by decide)) rfl d_is_within.g d_is_within.F.kp d_is_within.b out_zero (pa_cons (pv 9) (pa_cons (by exact (pe_callS G_kernel (hr.mono (by decide)) rfl d_kernel.g d_kernel.F.kp d_kernel.b (out_never (P := P) (w := w)) (pa_cons (pv 4) (pa_cons (pe_op op_catA (pv 8) (pv 12)) pa_nil)))) pa_nil))))))))) (pss_one (ps_ret pe_bl)) pss_nil)
    (pss_cons (ps_set (i := 13) sc_law.nd rfl (Or.inl rfl) (pe_call G_law_any (hr.mono (by decide)) rfl d_law_any.g d_law_any.F.kp d_law_any.b .nil pass0 (pa_cons (pv 1) (pa_cons (pe_op op_add (pe_callB call_len_seq (by rfl) T.len PySem.boot_len (pa_cons (pv 8) pa_nil)) pe_int) pa_nil))))
    (pss_cons (ps_set (i := 14) sc_law.nd rfl (Or.inl rfl) (pe_op op_cat (pe_op op_cat (pe_op op_cat (pe_callTy call_list_of (by rfl) T.list (by decide +kernel) (pa_cons (pe_slice sl_tupA (pv 8) po_none (po_some (pv 13))) pa_nil)) (pe_lst (pa_cons (pe_call G_law_of (hr.mono (by decide)) rfl d_law_of.g d_law_of.F.kp d_law_of.b .nil pass0 (pa_cons (pv 1) (pa_cons (pe_lst (pa_cons (pv 2) (pa_cons (pe_un un_neg pe_int) (pa_cons pe_non (pa_cons pe_bl pa_nil))))) pa_nil))) pa_nil))) (pe_callTy call_list_of (by rfl) T.list (by decide +kernel) (pa_cons (pe_slice sl_tupA (pv 8) (po_some (pv 13)) po_none) pa_nil))) (pe_lst (pa_cons (pv 2) pa_nil))))
    (pss_cons (ps_if (PW.pt (pw_or (pt_cmpR op_ne (pe_call G_law_refused (hr.mono (by decide)) rfl d_law_refused.g d_law_refused.F.kp d_law_refused.b .nil pass0 (pa_cons (pv 4) (pa_cons (pv 14) pa_nil))) (pv 13) (nomark _)) (pw_or1 (pt_cmpR op_ne (pe_call G_law_refused (hr.mono (by decide)) rfl d_law_refused.g d_law_refused.F.kp d_law_refused.b .nil pass0 (pa_cons (pv 4) (pa_cons pe_str pa_nil))) pe_int (nomark _))))) (pss_one (ps_ret pe_bl)) pss_nil)
    (pss_cons (ps_set (i := 15) sc_law.nd rfl (Or.inl rfl) (pe_callB call_len_seq (by rfl) T.len PySem.boot_len (pa_cons (pv 3) pa_nil)))
    (pss_cons (ps_set (i := 16) sc_law.nd rfl (Or.inl rfl) (pe_lst (pa_cons (pe_callTy call_list_of (by rfl) T.list (by decide +kernel) (pa_cons (pv 10) pa_nil)) (pa_cons (pe_op op_catA (pv 10) (pe_tup (pa_cons pe_int pa_nil))) (pa_cons (pe_slice sl_tupA (pv 10) (po_some pe_int) po_none) (pa_cons pe_non (pa_cons (pe_op op_repA (pe_tup (pa_cons (pv 15) pa_nil)) (pv 15)) (pa_cons (pe_tupleOf (by rfl) T.tuple (pe_op op_rep (pe_lst (pa_cons pe_bl pa_nil)) (pv 15))) (pa_cons (pe_op op_mul_str pe_str (pv 15)) (pa_cons (pe_tupleOf (by rfl) T.tuple (pe_op op_cat (pe_op op_rep (pe_lst (pa_cons pe_int pa_nil)) (pe_op op_sub (pv 15) pe_int)) (pe_lst (pa_cons (pv 15) pa_nil)))) pa_nil))))))))))
    (pss_cons (ps_set (i := 17) sc_law.nd rfl (Or.inl rfl) (pe_call G_law_of (hr.mono (by decide)) rfl d_law_of.g d_law_of.F.kp d_law_of.b .nil pass0 (pa_cons (pv 1) (pa_cons (pv 16) pa_nil))))
    (pss_cons (ps_if (pt_cmpR op_notN (by exact (pe_callS G_row_of_kernel (hr.mono (by decide)) rfl d_row_of_kernel.g d_row_of_kernel.F.kp d_row_of_kernel.b out_zero (pa_cons (pv 4) (pa_cons (pv 17) pa_nil)))) pe_non (nomark _)) (pss_one (ps_ret pe_bl)) pss_nil)
    (pss_cons (ps_set (i := 18) sc_law.nd rfl (Or.inl rfl) (pe_callTy call_list_of (by rfl) T.list (by decide +kernel) (pa_cons (pv 10) pa_nil)))
    (pss_cons (ps_asg (pe_call G_law_any (hr.mono (by decide)) rfl d_law_any.g d_law_any.F.kp d_law_any.b .nil pass0 (pa_cons (pv 1) (pa_cons (pv 15) pa_nil))) (pg_sub (pv 18) (pe_call G_law_any (hr.mono (by decide)) rfl d_law_any.g d_law_any.F.kp d_law_any.b .nil pass0 (pa_cons (pv 1) (pa_cons (pv 15) pa_nil))) set_list))
    (pss_one (ps_ret (pe_cmpR op_ne (pe_cmpR op_isN (by exact (pe_callS G_row_of_kernel (hr.mono (by decide)) rfl d_row_of_kernel.g d_row_of_kernel.F.kp d_row_of_kernel.b out_zero (pa_cons (pv 4) (pa_cons (pe_tupleOf (by rfl) T.tuple (pv 18)) pa_nil)))) pe_non (nomark _)) (pe_cmpR (op_inD hu65) (pe_tupleOf (by rfl) T.tuple (pv 18)) (pv 5) rfl) (nomark _))))))))))))))))))))))))), ?_⟩
    refine ⟨_, rfl, sa, sn, 2, rfl, hsa, hsn, by decide, by decide, fun H1 d l D1 S01 nd nl => ?_⟩
    refine ⟨_, rfl, d, l, 5, rfl, by decide, by decide, D1, fun H2 t g A ts D2 S12 t0 ht NG G hA hA3 hm R2 => ?_⟩
    refine ⟨t, _, rfl, SqT.of ht, rfl, _, _, rfl, _, _, rfl, rfl, ?_⟩
    have n5 : ts.length ≤ 5 := by omega
    refine ⟨_, rfl, _, rfl, make_rows (by omega) (by omega) G R2.rs (by omega) (fun H3 m us S23 m0 M3 e3 => ?_)⟩
    refine ⟨_, rfl, _, rfl, g, A, ts, rfl, G.same S23, R2, n5, by omega, fun H4 du kt S34 LT KK kl => ⟨_, _, rfl, ?_⟩⟩
    have S24 := S23.trans S34
    have g4 : Game CM H4 d l g m A ts us := ⟨D2.same S24, G.same S24, D1.free NG.top, fun t ht => D1.free (NG.row t ht), R2, hA, by omega, by omega, M3.same S34, e3⟩
    obtain ⟨rs, ers⟩ : ∃ rs, rs = rsOf ts := ⟨_, rfl⟩
    have lrs : rs.length = ts.length := by rw [ers, rsOf_len]
    have Rr : Rs A rs := by rw [ers]; exact R2.rs
    have gMu : MOk (A : Int) us := g4.mok
    have eA : ((A : Int)).toNat = A := Int.toNat_natCast A
    have eR : rsOf us = rs := by rw [ers]; exact e3
    have lus : us.length = ts.length := by rw [← rsOf_len us, eR, lrs]
    have hpos : 0 < ts.length := by rw [← lrs]; exact Rr.pos
    have r5 : rs.length ≤ 5 := by rw [lrs]; exact n5
    rw [← ers] at KK
    refine norm (σ' := [some (.ref sa), some (.ref d), some (.int (A : Int)), some (.ref g), some (.ref m), some (.ref du), none, none, none, none, none, none, none, none, none, none, none, none, none]) rfl ?_
    -- all kernels
    refine ⟨_, rfl, rfl, m, (A : Int), us, rfl, g4.M, gMu, by omega, fun H5 tk ks S45 htk hks KS kls => ?_⟩
    rw [eA, eR] at KS
    have ekk : ks.map (·.2) = kt.map (·.2) := KS.uniq (by omega) KK
    dsimp only [tNil]
    refine ⟨_, _, rfl, .tup (SqT.of htk) (dpAll_rows hks), .inr ⟨_, rfl⟩, sh_tups (kers_small r5 KS) (by rw [List.length_map]; omega), ?_⟩
    refine ⟨_, rfl, .inl ⟨du, _, rfl, SqL.of (S45 _ _ LT.top), fun t2 ht2 => ?_⟩⟩
    dsimp only [tNil]
    refine ⟨_, _, rfl, .tup (SqT.of upd_same) (dpAll_rows fun t ht => nk (S45 _ _ (LT.row t ht)) ht2), .inr ⟨_, rfl⟩, sh_tups (kers_small r5 KK) (by rw [List.length_map]; omega), rfl, _, rfl, iteS (by rw [ekk]) ?_⟩
    have S46 := S45.trans (Same.new (o := HO.tup (kt.map fun t => V.ref t.1)) ht2)
    obtain ⟨H6, eH6⟩ : ∃ H6, H6 = upd H5 t2 (HO.tup (kt.map fun t => V.ref t.1)) := ⟨_, rfl⟩
    rw [← eH6] at S46 ⊢
    clear eH6 ht2 hks htk KS kls ekk ks
    have g6 := g4.same S46
    have LT6 := LT.same S46
    refine fun sd hsd => ?_
    refine norm (σ' := [some (.ref sa), some (.ref d), some (.int (A : Int)), some (.ref g), some (.ref m), some (.ref du), some (.ref sd), none, none, none, none, none, none, none, none, none, none, none, none]) rfl ?_
    have sd0 : H6 sd = none := hsd
    obtain ⟨LL, eLL, hLL, hLA⟩ : ∃ LL : Nat, (if decide ((A : Int) < 3) = true then (5 : Int) else 4) = (LL : Int) ∧ LL ≤ 5 ∧ A ≤ 3 := by
      by_cases q : (A : Int) < 3
      · exact ⟨5, by rw [decide_eq_true q] <;> rfl, by omega, hA3⟩
      · exact ⟨4, by rw [decide_eq_false q] <;> rfl, by omega, hA3⟩
    have X6 : Seen rs A [] 0 0 := ⟨fun e he => (by cases he), by simp, fun r _ h => by
      rcases h with h | ⟨_, h⟩
      · omega
      · rw [List.take_zero] at h
        cases h⟩
    have S67 : Same H6 (upd H6 sd (.dT [])) := Same.new hsd
    have Z6 : SeenAt (upd H6 sd (.dT [])) sd [] := ⟨upd_same, fun e he => (by cases he)⟩
    refine ⟨_, rfl, _, _, rfl, rfl, _, rfl, (LL : Int), by rw [eLL], by omega, by omega, ?_⟩
    refine for_range (lo := 0) (n := LL) (fun i σ U => ∃ (es : List Ent) (v7 v8 v9 : Option V), σ = [some (.ref sa), some (.ref d), some (.int (A : Int)), some (.ref g), some (.ref m), some (.ref du), some (.ref sd), v7, v8, v9, none, none, none, none, none, none, none, none, none] ∧ Same H6 U ∧ SeenAt U sd es ∧ Seen rs A es i 0) ⟨[], none, none, none, rfl, S67, Z6, X6⟩ ?_ ?_
    · clear X6 S67 Z6
      rintro i σ U hi ⟨es, v7, v8, v9, rfl, S, Z, X⟩
      have z1 : (0 : Int) + (i : Int) = (i : Int) := by omega
      rw [z1]
      clear z1
      refine ⟨_, rfl, _, rfl, A, i, rfl, hA3, by omega, fun U1 p rt S1 p0 LTr er => ⟨p, rfl, ⟨_, SqL.of LTr.top⟩, ?_⟩⟩
      refine for_list (K := K) (a := p) (xs := rt.map fun t => V.ref t.1) (fun j σ U => ∃ (es : List Ent) (v8 v9 : Option V), σ = [some (.ref sa), some (.ref d), some (.int (A : Int)), some (.ref g), some (.ref m), some (.ref du), some (.ref sd), some (.int (i : Int)), v8, v9, none, none, none, none, none, none, none, none, none] ∧ Same H6 U ∧ ListT U p rt ∧ SeenAt U sd es ∧ Seen rs A es i j) ⟨es, v8, v9, rfl, S.trans S1, LTr, Z.same S1, X⟩ (fun j σ U _ h => by
        obtain ⟨_, _, _, _, _, L, _⟩ := h
        exact SqL.of L.top) ?_ ?_
      · clear LTr Z X S S1 v8 v9 es p0
        rintro j x σ U hx ⟨es, v8, v9, rfl, S, L, Z, X⟩
        rw [List.getElem?_map] at hx
        obtain ⟨t, ht, rfl⟩ := Option.map_eq_some_iff.mp hx
        have htm := List.mem_of_getElem? ht
        have hrow := L.row t htm
        have hrj : (rowsL A i)[j]? = some t.2 := by
          rw [← er, List.getElem?_map, ht]
          rfl
        obtain ⟨ta, tl⟩ := mem_rows.mp (List.mem_of_getElem? hrj)
        refine ⟨_, rfl, _, rfl, g, t.1, A, ts, t.2, rfl, (g6.same S).G, R2, by omega, SqT.of hrow, ta, fun U2 kt0 S2 _ hkt => ?_⟩
        have hkt : U2 kt0 = some (.tup ((kerR rs t.2).map V.int)) := by
          rw [ers]
          exact hkt
        have kyn : ((kerR rs t.2).map Sum.inl : List Key).map kV = (kerR rs t.2).map V.int := kv_ints _
        have Z2 := Z.same S2
        refine ⟨_, rfl, _, rfl, sd, _, rfl, DGet.t Z2.top (by rw [kyn]; exact hkt), _, rfl, ?_⟩
        rw [val_is]
        have hes := X.few r5
        by_cases hk : kerR rs t.2 ∈ es.map (·.1)
        · rw [decide_eq_true hk]
          exact iteF ⟨es, _, _, rfl, S.trans S2, L.same S2, Z2, X.pass hrj hk⟩
        · rw [decide_eq_false hk]
          have hpn : valV (es.map kvOf) ((kerR rs t.2).map Sum.inl) = none := val_none.mpr hk
          refine iteT ⟨_, rfl, _, rfl, _, rfl, sd, _, rfl, DPut.t (k := (kerR rs t.2).map Sum.inl) Z2.top (by rw [kyn]; exact hkt) (Nat.lt_of_le_of_lt (show _ ≤ 52 by rw [List.length_map]; exact hes) (by decide)), ?_⟩
          rw [putK_new _ hpn]
          have kt' : ∀ {a : Addr} {ys : List V}, U2 a = some (.tup ys) → upd U2 sd (.dT (es.map kvOf ++ [((kerR rs t.2).map Sum.inl, V.ref t.1)])) a = some (.tup ys) := fun {a ys} h => (upd_ne (ne_of h Z2.top (fun z => nomatch z))).trans h
          have L2 := L.same S2
          refine ⟨es ++ [(kerR rs t.2, t.1, t.2)], _, _, rfl, ((KP.same (S := fun _ => False) (S.trans S2)).mut sd0).toSame, ⟨?_, fun u hu => kt' (L2.row u hu)⟩, ⟨?_, fun e he => ?_⟩, X.add hrj hk⟩
          · rw [upd_ne (ne_of L2.top Z2.top (fun z => nomatch z))]
            exact L2.top
          · rw [upd_same, List.map_append]
            rfl
          · rcases List.mem_append.mp he with w | w
            · exact kt' (Z2.row e w)
            · rw [List.mem_singleton.mp w]
              exact kt' (S2 _ _ hrow)
      · rintro σ U ⟨es, v8, v9, rfl, S, L, Z, X⟩
        have lrt : (rt.map fun t => V.ref t.1).length = (rowsL A i).length := by rw [← er, List.length_map, List.length_map]
        rw [lrt] at X
        exact ⟨es, _, _, _, rfl, S, Z, X.next⟩
    rintro σ U7 ⟨es, v7, v8, v9, rfl, S67, Z7, X7⟩
    clear X6 Z6
    have g7 := g6.same S67
    have LT7 := LT6.same S67
    -- each of them
    refine ⟨_, rfl, du, rfl, ⟨_, SqL.of LT7.top⟩, ?_⟩
    refine for_list (K := K) (a := du) (xs := kt.map fun t => V.ref t.1) (fun j σ U => ∃ (v8 v9 : Option V), σ = [some (.ref sa), some (.ref d), some (.int (A : Int)), some (.ref g), some (.ref m), some (.ref du), some (.ref sd), v7, v8, v9, none, none, none, none, none, none, none, none, none] ∧ Same U7 U) ⟨v8, v9, rfl, Same.refl _⟩ (fun j σ U _ h => by
      obtain ⟨_, _, _, S⟩ := h
      exact SqL.of (S _ _ LT7.top)) ?_ ?_
    · clear v8 v9
      rintro j x σ U hx ⟨v8, v9, rfl, S⟩
      rw [List.getElem?_map] at hx
      obtain ⟨t, ht, rfl⟩ := Option.map_eq_some_iff.mp hx
      have htm := List.mem_of_getElem? ht
      have hrow := S _ _ (LT7.row t htm)
      obtain ⟨n0, na, ne⟩ := KK.ker t htm
      have gU := g7.same S
      have tl : t.2.length = us.length := by rw [ne, kerR_len, lrs, lus]
      refine ⟨_, rfl, _, rfl, rfl, m, .ref t.1, .tuple (t.2.map PyData.int), (A : Int), us, rfl, gU.M, gMu, by omega, .tup hrow (dvAll_ints _), by show (t.2.map PyData.int).length ≤ 1000; rw [List.length_map]; omega, fun H' S' h => ?_, fun U1 tr kk r S1 ekk L rl htr => ?_⟩
      · rw [eA, eR] at h
        exact absurd (by rw [ne]) (h n0 na)
      rw [eA, eR] at L
      have ekk : t.2 = kk := pints_inj (by injection ekk)
      subst ekk
      have hrow1 := S1 _ _ hrow
      have Z1 := Z7.same (S.trans S1)
      have kyn : (t.2.map Sum.inl : List Key).map kV = t.2.map V.int := kv_ints _
      have dg : ∀ {U' : Hp}, Same U1 U' → DGet U' sd (V.ref t.1) (valV (es.map kvOf) (t.2.map Sum.inl)) := fun S' => DGet.t (Z1.same S').top (by rw [kyn]; exact S' _ _ hrow1)
      refine ⟨_, rfl, .ref tr, _, _, _, true, rfl, .ty _, (Dv.tup htr (dvAll_ints _)).ty, kit_ty (a := "tuple") (by decide +kernel), ⟨true, rfl, ?_⟩⟩
      refine iteF ⟨_, rfl, _, rfl, g, tr, A, ts, r, rfl, (gU.same S1).G, R2, by omega, SqT.of htr, L.1, fun U2 k2 S2 _ hk2 => ?_⟩
      have hk2 : U2 k2 = some (.tup ((kerR rs r).map V.int)) := by
        rw [ers]
        exact hk2
      rw [L.2.1] at hk2
      refine ⟨_, rfl, _, _, .tup (SqT.of hk2) (dpAll_ints _), .tup (SqT.of (S2 _ _ hrow1)) (dpAll_ints _), shaped_rowP _, shaped_rowP _, _, rfl, ?_⟩
      rw [eqv_tups, decide_eq_true (rfl : t.2 = t.2)]
      refine iteF ⟨_, rfl, _, rfl, sd, _, rfl, dg S2, _, rfl, ?_⟩
      have hrw : ∀ {xs : List Int}, xs.length ≤ 1000 → True := fun _ => True.intro
      have S12' := S.trans (S1.trans S2)
      by_cases hin : t.2 ∈ es.map (·.1)
      · obtain ⟨e, he, ek, hv⟩ := val_some hin
        rw [hv]
        have er : r = e.2.2 := X7.same_row he (by rw [ek]; exact L)
        refine iteT ⟨_, rfl, _, rfl, _, rfl, sd, _, rfl, (by have := dg S2; rw [hv] at this; exact this), _, _, .tup (SqT.of (S2 _ _ htr)) (dpAll_ints _), .tup (SqT.of ((Z1.same S2).row e he)) (dpAll_ints _), shaped_rowP _, shaped_rowP _, _, rfl, ?_⟩
        rw [eqv_tups, decide_eq_true er]
        refine iteF ⟨_, rfl, _, rfl, sd, _, rfl, dg S2, _, rfl, ?_⟩
        rw [hv]
        exact iteF (iteF ⟨_, _, rfl, S12'⟩)
      · have hvn : valV (es.map kvOf) (t.2.map Sum.inl) = none := val_none.mpr hin
        rw [hvn]
        refine iteF (iteF ⟨_, rfl, _, rfl, sd, _, rfl, dg S2, _, rfl, ?_⟩)
        rw [hvn]
        have hlong := X7.long hin L
        refine iteT ⟨_, rfl, tr, _, rfl, .inr (SqT.of (S2 _ _ htr)), _, rfl, _, _, rfl, rfl, _, rfl, _, _, rfl, rfl, _, rfl, ?_⟩
        rw [decide_eq_false (by rw [eLL, List.length_map]; omega)]
        exact iteF ⟨_, _, rfl, S12'⟩
    rintro σ U8 ⟨v8, v9, rfl, S78⟩
    have S48 := S46.trans (S67.trans S78)
    have g8 := g4.same S48
    have LT8 := LT.same S48
    clear LT7 g7 LT6 g6 Z7 X7 S78 S67 S46 hsd sd0
    -- two of them
    have kpos : 0 < kt.length := by
      have := KK.all [] (fun c hc => by cases hc)
      obtain ⟨t, ht, _⟩ := List.mem_map.mp this
      exact List.length_pos_of_mem ht
    have nodl : ∀ {U : Hp} {a : Addr} {ys : List V}, DealAt U d l → U a = some (.tup ys) → ¬ dl d l a := fun D h => D.off h
    have ndu : ¬ dl d l du := by
      obtain ⟨bs, b, x⟩ := id g8.D
      have h := LT8.top
      rintro (e | e)
      · rw [e, x.hd] at h
        have h1 := congrArg (fun z : List V => z[1]?) (HO.lst.inj (Option.some.inj h))
        rw [List.getElem?_map] at h1
        cases hk : kt[1]? with
        | none => rw [hk] at h1; cases h1
        | some t => rw [hk] at h1; cases h1
      · rw [e, x.hl] at h
        have h1 := congrArg (fun z : List V => z[0]?) (HO.lst.inj (Option.some.inj h))
        rw [List.getElem?_map, List.getElem?_map, List.getElem?_eq_getElem kpos] at h1
        cases hk : bs[0]? with
        | none => rw [hk] at h1; cases h1
        | some t => rw [hk] at h1; cases h1
    refine ⟨_, rfl, _, rfl, d, l, du, _, rfl, LT8.top, ndu, by rw [List.length_map]; exact kpos, by rw [List.length_map]; omega, g8.D, fun H9 i1 v1 D9 S89 hv1 => ⟨_, rfl, _, rfl, d, l, du, _, rfl, S89.kp.get ndu LT8.top, ndu, by rw [List.length_map]; exact kpos, by rw [List.length_map]; omega, D9, fun H10 i2 v2 D10 S910 hv2 => ⟨_, _, rfl, ?_⟩⟩⟩
    rw [List.getElem?_map] at hv1 hv2
    obtain ⟨t1, ht1, rfl⟩ := Option.map_eq_some_iff.mp hv1
    obtain ⟨t2', ht2', rfl⟩ := Option.map_eq_some_iff.mp hv2
    have hm1 := List.mem_of_getElem? ht1
    have hm2 := List.mem_of_getElem? ht2'
    have S810 := S89.trans S910
    have g10 := g8.go D10 S810
    have LT10 : ListT H10 du kt := ⟨S810.kp.get ndu LT8.top, fun t ht => S810.kp.get (g8.D.off (LT8.row t ht)) (LT8.row t ht)⟩
    obtain ⟨n1, na1, ne1⟩ := KK.ker t1 hm1
    obtain ⟨n2, na2, ne2⟩ := KK.ker t2' hm2
    have l1 : t1.2.length = ts.length := by rw [ne1, kerR_len, lrs]
    have l2 : t2'.2.length = ts.length := by rw [ne2, kerR_len, lrs]
    refine norm (σ' := [some (.ref sa), some (.ref d), some (.int (A : Int)), some (.ref g), some (.ref m), some (.ref du), some (.ref sd), v7, v8, v9, some (.ref t1.1), some (.ref t2'.1), none, none, none, none, none, none, none]) rfl ?_
    refine ⟨_, rfl, _, rfl, rfl, t1.1, t2'.1, t1.2, t2'.2, rfl, LT10.row t1 hm1, LT10.row t2' hm2, by omega, by omega, (by rw [l1, ← lrs]; rw [ne1]; exact kerR_in), fun H11 r S11 hr => ?_⟩
    dsimp only [tNil]
    refine ⟨r, rfl, _, rfl, _, rfl, t1.1, t2'.1, t1.2, t2'.2, rfl, S11 _ _ (LT10.row t1 hm1), S11 _ _ (LT10.row t2' hm2), by omega, by omega, (by rw [ne1]; exact ker_ker _), fun r2 hr2 => ?_⟩
    dsimp only [tNil]
    have err : r = r2 := by
      rw [Bool.eq_iff_iff, hr, hr2]
    refine ⟨r2, rfl, rfl, _, rfl, iteS (by rw [err]) ?_⟩
    have g11 := g10.same S11
    have LT11 := LT10.same S11
    -- rows
    refine ⟨_, rfl, _, rfl, _, rfl, d, l, 30, rfl, by decide, by decide, g11.D, fun H12 rn D12 S1112 rn0 rn1 => ⟨d, l, (A : Int), rn, rfl, by omega, by omega, by omega, by omega, D12, fun H13 rp ns D13 S1213 rp0 hrp rl rz => ⟨_, rfl, _, rfl, _, rfl, d, l, 4, rfl, by decide, by decide, D13, fun H14 mn D14 S1314 mn0 mn1 => ⟨d, l, (A : Int), mn, rfl, by omega, by omega, by omega, by omega, D14, fun H15 mp ms D15 S1415 mp0 hmp ml mz => ⟨_, _, rfl, ?_⟩⟩⟩⟩⟩
    have S1315 := S1314.trans S1415
    have S1115 := (S1112.trans S1213).trans S1315
    have g15 := g11.go D15 S1115
    have LT15 : ListT H15 du kt := ⟨S1115.kp.get (by exact ndu) LT11.top, fun t ht => S1115.kp.get (g11.D.off (LT11.row t ht)) (LT11.row t ht)⟩
    have hrp15 := S1315.kp.get (D13.off hrp) hrp
    have hns : InA A ns := fun z hz => rz z hz
    have hms : InA A ms := fun z hz => mz z hz
    refine norm (σ' := [some (.ref sa), some (.ref d), some (.int (A : Int)), some (.ref g), some (.ref m), some (.ref du), some (.ref sd), v7, some (.ref rp), v9, some (.ref t1.1), some (.ref t2'.1), some (.ref mp), none, none, none, none, none, none]) rfl ?_
    have rrL : ∀ ys : List Int, InA A ys → rowRes (A : Int) (.list (ys.map PyData.int)) = none := fun ys hy => badV_ints hy
    have rrT : ∀ ys : List Int, InA A ys → rowRes (A : Int) (.tuple (ys.map PyData.int)) = none := fun ys hy => badV_ints hy
    have bhL : ∀ ys : List Int, kerL (effs (rsOf us) (intsD (.list (ys.map PyData.int)))) = kerR rs ys := fun ys => by
      show kerL (effs (rsOf us) ((ys.map PyData.int).map intD)) = _
      rw [ints_back, eR]
      rfl
    have bhT : ∀ ys : List Int, kerL (effs (rsOf us) (intsD (.tuple (ys.map PyData.int)))) = kerR rs ys := fun ys => by
      show kerL (effs (rsOf us) ((ys.map PyData.int).map intD)) = _
      rw [ints_back, eR]
      rfl
    refine ⟨_, rfl, rp, _, rfl, .inr (SqT.of hrp15), fun gv hgv => ⟨_, rfl, rfl, m, .ref gv, .list (ns.map PyData.int), (A : Int), us, rfl, (g15.new hgv).M, gMu, .lst upd_same (dvAll_ints _), by show (ns.map PyData.int).length ≤ 1000; rw [List.length_map]; omega, ?_⟩⟩
    rw [rrL ns hns]
    refine fun H16 fo S16 hfo => ?_
    rw [bhL] at hfo
    have S1516 := (Same.new (o := HO.lst (ns.map V.int)) hgv).trans S16
    have g16 := g15.same S1516
    have hrp16 := S1516 _ _ hrp15
    have hmp16 := S1516 _ _ hmp
    have ks : ∀ ys : List Int, Sh (rowP (kerR rs ys)) := fun ys => sh_row (fun z hz => by have := kerR_in z hz; omega) (by rw [kerR_len]; omega)
    refine ⟨_, rfl, _, _, rfl, .tup (SqT.of hfo) (dpAll_ints _), .inr ⟨_, rfl⟩, ks ns, ?_⟩
    refine ⟨_, rfl, _, rfl, g, rp, A, ts, ns, rfl, g16.G, R2, by omega, SqT.of hrp16, hns, fun H17 k3 S17 _ hk3 => ?_⟩
    have hk3 : H17 k3 = some (.tup ((kerR rs ns).map V.int)) := by
      rw [ers]
      exact hk3
    dsimp only [tNil]
    refine ⟨_, _, rfl, .tup (SqT.of hk3) (dpAll_ints _), .inr ⟨_, rfl⟩, ks ns, rfl, _, rfl, iteS rfl ?_⟩
    have g17 := g16.same S17
    have hrp17 := S17 _ _ hrp16
    refine ⟨_, rfl, _, rfl, _, rfl, _, rfl, ?_⟩
    refine cat_any hrp17 (S17 _ _ hmp16) (Nat.le_trans (show _ ≤ 1000 by rw [List.length_map, List.length_map]; omega) (by decide)) fun H18 rt S18 hrt => ?_
    rw [← List.map_append] at hrt
    refine ⟨m, .ref rt, .tuple ((ns ++ ms).map PyData.int), (A : Int), us, rfl, (g17.same S18).M, gMu, .tup hrt (dvAll_ints _), by show ((ns ++ ms).map PyData.int).length ≤ 1000; rw [List.length_map, List.length_append]; omega, ?_⟩
    rw [rrT (ns ++ ms) (fun z hz => (List.mem_append.mp hz).elim (hns z) (hms z))]
    refine fun H19 k4 S19 hk4 => ?_
    rw [bhT] at hk4
    have S1619 := (S17.trans S18).trans S19
    refine ⟨fo, k4, _, _, rfl, S1619 _ _ hfo, hk4, by rw [kerR_len, kerR_len], by rw [kerR_len]; omega, by rw [kerR_len]; exact kerR_in, fun H20 r3 S20 hr3 => ⟨r3, rfl, ?_⟩⟩
    rw [hr3.mpr (within_more Rr ns ms)]
    refine iteF ?_
    have S1520 := S1516.trans (S1619.trans S20)
    have g20 := g15.same S1520
    have LT20 := LT15.same S1520
    have hrp20 := S1520 _ _ hrp15
    have S1120 : SB d l H11 H20 := S1115.trans (sbS S1520)
    -- a wrong row
    refine ⟨_, rfl, _, rfl, rp, _, rfl, .inr (SqT.of hrp20), _, _, rfl, rfl, d, l, _, rfl, by omega, by rw [List.length_map]; omega, g20.D, fun H21 pl D21 S2021 p0 p1 => ?_⟩
    obtain ⟨j, rfl⟩ : ∃ j : Nat, pl = (j : Int) := ⟨pl.toNat, by omega⟩
    have hj : j ≤ ns.length := by
      rw [List.length_map] at p1
      omega
    have g21 := g20.go D21 S2021
    have hrp21 := S2021.kp.get (g20.D.off hrp20) hrp20
    have lx' : (ns.map V.int).length = ns.length := List.length_map ..
    have c1 : cutV (ns.map V.int) none (some (j : Int)) = (ns.take j).map V.int := by rw [cut_to (by rw [lx']; exact hj), List.map_take]
    have c2 : cutV (ns.map V.int) (some (j : Int)) none = (ns.drop j).map V.int := by rw [cut_from (by rw [lx']; exact hj), List.map_drop]
    refine ⟨_, rfl, noPart ⟨_, rfl, (j : Int), rfl, slX hrp21 fun H22 q1 S22 hq1 => ?_⟩⟩
    refine ⟨q1, _, rfl, .inr (SqT.of hq1), fun b1 hb1 => ?_⟩
    have g22 := (g21.same S22).new (o := HO.lst (cutV (ns.map V.int) none (some (j : Int)))) hb1
    have nb1 : ¬ dl d l b1 := (g21.same S22).D.free hb1
    have hrp22 : upd H22 b1 (HO.lst (cutV (ns.map V.int) none (some (j : Int)))) rp = some (.tup (ns.map V.int)) := nk (S22 _ _ hrp21) hb1
    refine ⟨_, rfl, _, rfl, 1, rfl, by show 4 ≤ sizeLine; decide, fun q2 hq2 => ?_⟩
    have g23 := g22.new (o := HO.lst [V.int (A : Int), V.int (-1), V.non, V.bl true]) hq2
    refine ⟨d, l, q2, _, rfl, upd_same, g22.D.free hq2, by show 0 < 4; decide, by show 4 ≤ 1000; decide, g23.D, fun H24 i3 v3 D24 S2324 hv3 => ?_⟩
    have g24 := g23.go D24 S2324
    have hrp24 := S2324.kp.get (g22.D.off hrp22) (nk hrp22 hq2)
    have hb24 : H24 b1 = some (.lst (cutV (ns.map V.int) none (some (j : Int)))) := S2324.kp.get nb1 (nk upd_same hq2)
    have hw3 : ∃ e, KDv d l H24 v3 e ∧ isB (A : Int) e = false := pick4 (P := fun v => ∃ e, KDv d l H24 v e ∧ isB (A : Int) e = false) hv3 ⟨_, fun _ _ => .int _, isB_self⟩ ⟨_, fun _ _ => .int (-1), rfl⟩ ⟨_, fun _ _ => .non, rfl⟩ ⟨_, fun _ _ => .bl true, rfl⟩
    obtain ⟨e3', K3, hb3e⟩ := hw3
    have lc1 : (cutV (ns.map V.int) none (some (j : Int))).length ≤ 600 := by
      rw [c1, List.length_map, List.length_take]
      omega
    have lc2 : (cutV (ns.map V.int) (some (j : Int)) none).length ≤ 600 := by
      rw [c2, List.length_map, List.length_drop]
      omega
    refine ⟨by show 1 ≤ sizeLine; decide, fun p3 hp3 => ⟨b1, p3, _, _, rfl, rfl, nk hb24 hp3, upd_same, Nat.le_trans (show _ ≤ 1000 by simp only [List.length_singleton]; omega) (by decide), fun p4 hp4 => ?_⟩⟩
    have g25 := (g24.new (o := HO.lst [v3]) hp3).new (o := HO.lst (cutV (ns.map V.int) none (some (j : Int)) ++ [v3])) hp4
    have hrp25 : upd (upd H24 p3 (HO.lst [v3])) p4 (HO.lst (cutV (ns.map V.int) none (some (j : Int)) ++ [v3])) rp = some (.tup (ns.map V.int)) := nk (nk hrp24 hp3) hp4
    refine ⟨_, rfl, _, rfl, (j : Int), rfl, noPart (slX hrp25 fun H26 q4 S26 hq4 => ?_)⟩
    refine ⟨q4, _, rfl, .inr (SqT.of hq4), fun b2 hb2 => ?_⟩
    have h4 : upd H26 b2 (HO.lst (cutV (ns.map V.int) (some (j : Int)) none)) p4 = some (.lst (cutV (ns.map V.int) none (some (j : Int)) ++ [v3])) := nk (S26 _ _ upd_same) hb2
    refine ⟨p4, b2, _, _, rfl, rfl, h4, upd_same, Nat.le_trans (show _ ≤ 2000 by rw [List.length_append]; simp only [List.length_singleton]; omega) (by decide), fun p5 hp5 => ?_⟩
    refine ⟨_, rfl, by show 1 ≤ sizeLine; decide, fun p6 hp6 => ⟨p5, p6, _, _, rfl, rfl, nk upd_same hp6, upd_same, Nat.le_trans (show _ ≤ 2000 by rw [List.length_append, List.length_append]; simp only [List.length_singleton]; omega) (by decide), fun p7 hp7 => ?_⟩⟩
    refine norm (σ' := [some (.ref sa), some (.ref d), some (.int (A : Int)), some (.ref g), some (.ref m), some (.ref du), some (.ref sd), v7, some (.ref rp), some (.ref fo), some (.ref t1.1), some (.ref t2'.1), some (.ref mp), some (.int (j : Int)), some (.ref p7), none, none, none, none]) rfl ?_
    have S2427 : Same H24 (upd (upd H26 b2 (HO.lst (cutV (ns.map V.int) (some (j : Int)) none))) p5 (HO.lst (cutV (ns.map V.int) none (some (j : Int)) ++ [v3] ++ cutV (ns.map V.int) (some (j : Int)) none))) := ((Same.new (o := HO.lst [v3]) hp3).trans ((Same.new (o := HO.lst (cutV (ns.map V.int) none (some (j : Int)) ++ [v3])) hp4).trans S26)).trans ((Same.new (o := HO.lst (cutV (ns.map V.int) (some (j : Int)) none)) hb2).trans (Same.new hp5))
    obtain ⟨H27, eH27⟩ : ∃ H27, H27 = upd (upd H26 b2 (HO.lst (cutV (ns.map V.int) (some (j : Int)) none))) p5 (HO.lst (cutV (ns.map V.int) none (some (j : Int)) ++ [v3] ++ cutV (ns.map V.int) (some (j : Int)) none)) := ⟨_, rfl⟩
    rw [← eH27] at S2427 hp6 hp7 ⊢
    have S2428 : Same H24 (upd (upd H27 p6 (HO.lst [V.int (A : Int)])) p7 (HO.lst (cutV (ns.map V.int) none (some (j : Int)) ++ [v3] ++ cutV (ns.map V.int) (some (j : Int)) none ++ [V.int (A : Int)]))) := S2427.trans ((Same.new hp6).trans (Same.new hp7))
    have hwr : upd (upd H27 p6 (HO.lst [V.int (A : Int)])) p7 (HO.lst (cutV (ns.map V.int) none (some (j : Int)) ++ [v3] ++ cutV (ns.map V.int) (some (j : Int)) none ++ [V.int (A : Int)])) p7 = _ := upd_same
    obtain ⟨H28, eH28⟩ : ∃ H28, H28 = upd (upd H27 p6 (HO.lst [V.int (A : Int)])) p7 (HO.lst (cutV (ns.map V.int) none (some (j : Int)) ++ [v3] ++ cutV (ns.map V.int) (some (j : Int)) none ++ [V.int (A : Int)])) := ⟨_, rfl⟩
    rw [← eH28] at S2428 hwr ⊢
    clear eH27 eH28 hp6 hp7 hp5 S2427 h4 hb2 hq4 S26 hp4 hp3 hb24
    obtain ⟨dbad, edb⟩ : ∃ e : PyData, e = .list ((ns.take j).map PyData.int ++ e3' :: ((ns.drop j).map PyData.int ++ [.int (A : Int)])) := ⟨_, rfl⟩
    have K7 : Dv H28 (.ref p7) dbad := by
      rw [edb]
      have q : DvAll H28 ((ns.take j).map V.int ++ v3 :: ((ns.drop j).map V.int ++ [V.int (A : Int)])) ((ns.take j).map PyData.int ++ e3' :: ((ns.drop j).map PyData.int ++ [.int (A : Int)])) := dvAll_append (dvAll_ints _) (.cons (K3 _ (sbS S2428)) (dvAll_append (dvAll_ints _) (.cons (.int _) .nil)))
      refine .lst hwr ?_
      rw [c1, c2, List.append_assoc, List.append_assoc]
      exact q
    have rb : rowRes (A : Int) dbad = some j := by
      rw [edb]
      show badV (A : Int) ((ns.take j).map PyData.int ++ e3' :: ((ns.drop j).map PyData.int ++ [.int (A : Int)])) 0 = _
      rw [badV_at hb3e (fun z hz' => hns z (List.mem_of_mem_take hz')), List.length_take, Nat.min_eq_left hj, Nat.zero_add]
    have lb : (itemsD dbad).length ≤ 1000 := by
      rw [edb]
      show ((ns.take j).map PyData.int ++ e3' :: ((ns.drop j).map PyData.int ++ [.int (A : Int)])).length ≤ 1000
      simp only [List.length_append, List.length_cons, List.length_map, List.length_take, List.length_drop, List.length_nil]
      omega
    have g28 := g24.same S2428
    refine ⟨_, rfl, _, rfl, m, .ref p7, dbad, (A : Int), us, rfl, g28.M, gMu, K7, lb, fun H29 S2829 => ?_⟩
    rw [rb]
    refine ⟨_, rfl, rfl, _, rfl, ?_⟩
    rw [decide_eq_true (rfl : V.int (j : Int) = V.int (j : Int))]
    refine iteF ⟨_, rfl, m, .str "0", .str "0", (A : Int), us, rfl, (g28.same S2829).M, gMu, .str _, by show 0 ≤ 1000; omega, fun H30 S2930 => ?_⟩
    refine ⟨rfl, _, rfl, ?_⟩
    refine iteND rfl ?_
    have S2430 := (S2428.trans S2829).trans S2930
    have g30 := g24.same S2430
    have S2030 : SB d l H20 H30 := ((S2021.trans (sbS (S22.trans (Same.new hb1)))).trans ((SB.new hq2).trans S2324)).trans (sbS S2430)
    have S1130 : SB d l H11 H30 := S1120.trans S2030
    have LT30 : ListT H30 du kt := ⟨S1130.kp.get ndu LT11.top, fun t ht => S1130.kp.get (g11.D.off (LT11.row t ht)) (LT11.row t ht)⟩
    have ho30 := LT30.row t1 hm1
    refine ⟨_, rfl, g, _, rfl, .inl (SqL.of g30.G.top), ?_⟩
    rw [List.length_map]
    obtain ⟨mn, emn⟩ : ∃ mn, mn = ts.length := ⟨_, rfl⟩
    rw [← emn]
    have mn1 : 1 ≤ mn := by omega
    have mn5 : mn ≤ 5 := by omega
    -- what is none
    refine ⟨_, rfl, t1.1, _, rfl, .inr (SqT.of ho30), fun x1 hx1 => ?_⟩
    have T1 : Same H30 (upd H30 x1 (.lst (t1.2.map V.int))) := Same.new hx1
    have f1 : upd H30 x1 (.lst (t1.2.map V.int)) x1 = _ := upd_same
    have nx1 : ¬ dl d l x1 := g30.D.free hx1
    obtain ⟨U1, eU1⟩ : ∃ U1, U1 = upd H30 x1 (.lst (t1.2.map V.int)) := ⟨_, rfl⟩
    rw [← eU1] at T1 f1 ⊢
    refine ⟨_, rfl, by show 1 ≤ sizeLine; decide, fun x2 hx2 => cat_any (nk (T1 _ _ ho30) hx2) upd_same (Nat.le_trans (show _ ≤ 1000 by rw [List.length_map, List.length_singleton]; omega) (by decide)) fun U2 y2 T2 f2 => ?_⟩
    have T2 := (Same.new (o := HO.tup [V.int 0]) hx2).trans T2
    refine ⟨_, rfl, 1, rfl, noPart (slX (T2 _ _ (T1 _ _ ho30)) fun U3 y3 T3 f3 => ?_)⟩
    refine ⟨_, rfl, by show 1 ≤ sizeLine; decide, fun x4 hx4 => ⟨_, rfl, rep_any upd_same (by simp) mn1 (by omega) (by show 1 ≤ 1000; omega) fun U4 y4 T4 f4 => ?_⟩⟩
    have T4 := (Same.new (o := HO.tup [V.int (mn : Int)]) hx4).trans T4
    refine ⟨by show 1 ≤ sizeLine; decide, fun x6 hx6 => ⟨_, rfl, x6, (mn : Int), _, rfl, rfl, upd_same, by omega, by omega, Nat.le_trans (show _ ≤ 1000 by rw [List.length_singleton, Int.toNat_natCast]; omega) (by decide), fun p6 hp6 => .inl ⟨p6, _, rfl, SqL.of upd_same, fun y6 hy6 => ?_⟩⟩⟩
    rw [Int.toNat_natCast, flat_one] at hy6 ⊢
    have T6 := ((Same.new (o := HO.lst [V.bl true]) hx6).trans (Same.new (o := HO.lst (List.replicate mn (V.bl true))) hp6)).trans (Same.new (o := HO.tup (List.replicate mn (V.bl true))) hy6)
    have f6 : upd (upd (upd U4 x6 (HO.lst [V.bl true])) p6 (HO.lst (List.replicate mn (V.bl true)))) y6 (HO.tup (List.replicate mn (V.bl true))) y6 = _ := upd_same
    obtain ⟨U6, eU6⟩ : ∃ U6, U6 = upd (upd (upd U4 x6 (HO.lst [V.bl true])) p6 (HO.lst (List.replicate mn (V.bl true)))) y6 (HO.tup (List.replicate mn (V.bl true))) := ⟨_, rfl⟩
    rw [← eU6] at T6 f6 ⊢
    refine ⟨_, rfl, _, _, rfl, rfl, PyProof.Rows.mulOk_of 16 1048576 (by decide) (by omega) (by omega) (by decide) (by decide), ?_⟩
    obtain ⟨zz, ezz⟩ : ∃ zz, zz = Txt.mul "0" (mn : Int) := ⟨_, rfl⟩
    rw [← ezz]
    refine ⟨by show 1 ≤ sizeLine; decide, fun x8 hx8 => ⟨_, rfl, _, _, rfl, rfl, x8, _, _, rfl, rfl, upd_same, by omega, by omega, Nat.le_trans (show _ ≤ 1000 by rw [List.length_singleton]; omega) (by decide), fun p8 hp8 => ⟨_, rfl, by show 1 ≤ sizeLine; decide, fun q8 hq8 => ⟨p8, q8, _, _, rfl, rfl, nk upd_same hq8, upd_same, ?_, fun r8 hr8 => .inl ⟨r8, _, rfl, SqL.of upd_same, fun y8 hy8 => ?_⟩⟩⟩⟩⟩
    · rw [flat_one, List.length_replicate, List.length_singleton]
      exact Nat.le_trans (show _ ≤ 1000 by omega) (by decide)
    rw [flat_one] at hq8 hr8 hy8 ⊢
    have hk1 : ((mn : Int) - 1).toNat = mn - 1 := by omega
    rw [hk1] at hq8 hr8 hy8 ⊢
    have T8 := (((Same.new (o := HO.lst [V.int 0]) hx8).trans (Same.new (o := HO.lst (List.replicate (mn - 1) (V.int 0))) hp8)).trans (Same.new (o := HO.lst [V.int (mn : Int)]) hq8)).trans ((Same.new (o := HO.lst (List.replicate (mn - 1) (V.int 0) ++ [V.int (mn : Int)])) hr8).trans (Same.new (o := HO.tup (List.replicate (mn - 1) (V.int 0) ++ [V.int (mn : Int)])) hy8))
    obtain ⟨U8, eU8⟩ : ∃ U8, U8 = upd (upd (upd (upd (upd U6 x8 (HO.lst [V.int 0])) p8 (HO.lst (List.replicate (mn - 1) (V.int 0)))) q8 (HO.lst [V.int (mn : Int)])) r8 (HO.lst (List.replicate (mn - 1) (V.int 0) ++ [V.int (mn : Int)]))) y8 (HO.tup (List.replicate (mn - 1) (V.int 0) ++ [V.int (mn : Int)])) := ⟨_, rfl⟩
    have f8 : U8 y8 = some (HO.tup (List.replicate (mn - 1) (V.int 0) ++ [V.int (mn : Int)])) := by rw [eU8]; exact upd_same
    rw [← eU8] at T8 ⊢
    clear eU8 hx8 hp8 hq8 hr8 hy8 eU6 hx6 hp6 hy6
    refine ⟨by show 8 ≤ sizeLine; decide, fun od hod => ?_⟩
    refine norm (σ' := [some (.ref sa), some (.ref d), some (.int (A : Int)), some (.ref g), some (.ref m), some (.ref du), some (.ref sd), v7, some (.ref rp), some (.ref fo), some (.ref t1.1), some (.ref t2'.1), some (.ref mp), some (.int (j : Int)), some (.ref p7), some (.int (mn : Int)), some (.ref od), none, none]) rfl ?_
    have W8 : Same U8 (upd U8 od (HO.lst [V.ref x1, V.ref y2, V.ref y3, V.non, V.ref y4, V.ref y6, V.str zz, V.ref y8])) := Same.new hod
    have W6 := T8.trans W8
    have W4 := T6.trans W6
    have W3 := T4.trans W4
    have W2 := T3.trans W3
    have W1 := T2.trans W2
    have W0 := T1.trans W1
    have gE := g30.same W0
    have nod : ¬ dl d l od := (g30.same (T1.trans (T2.trans (T3.trans (T4.trans (T6.trans T8)))))).D.free hod
    have LTE := LT30.same W0
    have hod' : upd U8 od (HO.lst [V.ref x1, V.ref y2, V.ref y3, V.non, V.ref y4, V.ref y6, V.str zz, V.ref y8]) od = _ := upd_same
    have f1 := W1 _ _ f1
    have f2 := W2 _ _ f2
    have f3 := W3 _ _ f3
    have f4 := W4 _ _ f4
    have f6 := W6 _ _ f6
    have f8 := W8 _ _ f8
    obtain ⟨UE, eUE⟩ : ∃ UE, UE = upd U8 od (HO.lst [V.ref x1, V.ref y2, V.ref y3, V.non, V.ref y4, V.ref y6, V.str zz, V.ref y8]) := ⟨_, rfl⟩
    rw [← eUE] at f1 f2 f3 f4 f6 f8 gE LTE hod' W0 ⊢
    clear eUE hod W8 W6 W4 W3 W2 W1 T1 T2 T3 T4 T6 T8 hx1 hx2 hx4
    rw [flat_one] at f4
    have c3 : cutV (t1.2.map V.int) (some 1) none = (t1.2.drop 1).map V.int := by rw [show (1 : Int) = ((1 : Nat) : Int) from rfl, cut_from (by rw [List.length_map]; omega), List.map_drop]
    rw [c3] at f3
    refine ⟨_, rfl, _, rfl, d, l, od, _, rfl, hod', nod, by show 0 < 8; decide, by show 8 ≤ 1000; decide, gE.D, fun H40 i5 v5 D40 S40 hv5 => ?_⟩
    have hw5 : ∃ e, KDv d l UE v5 e ∧ (itemsD e).length ≤ 1000 ∧ ∀ ys, InA A ys → e ≠ .tuple ((kerR rs ys).map PyData.int) := by
      refine pick8 (P := fun v => ∃ e, KDv d l UE v e ∧ (itemsD e).length ≤ 1000 ∧ ∀ ys, InA A ys → e ≠ .tuple ((kerR rs ys).map PyData.int)) hv5 ?_ ?_ ?_ ?_ ?_ ?_ ?_ ?_
      · exact ⟨.list (t1.2.map PyData.int), fun H' S' => .lst (S'.kp.get nx1 f1) (dvAll_ints _), by show (t1.2.map PyData.int).length ≤ 1000; rw [List.length_map]; omega, fun ys _ e => by cases e⟩
      · refine ⟨.tuple (t1.2.map PyData.int ++ [.int 0]), fun H' S' => .tup (S'.kp.get (gE.D.off f2) f2) (dvAll_append (dvAll_ints _) (.cons (.int 0) .nil)), by show (t1.2.map PyData.int ++ [PyData.int 0]).length ≤ 1000; rw [List.length_append, List.length_map, List.length_singleton]; omega, fun ys _ e => ?_⟩
        have := (kernel_data e).1
        rw [List.length_append, List.length_map, List.length_singleton] at this
        omega
      · refine ⟨.tuple ((t1.2.drop 1).map PyData.int), fun H' S' => .tup (S'.kp.get (gE.D.off f3) f3) (dvAll_ints _), by show ((t1.2.drop 1).map PyData.int).length ≤ 1000; rw [List.length_map, List.length_drop]; omega, fun ys _ e => ?_⟩
        have := (kernel_data e).1
        rw [List.length_map, List.length_drop] at this
        omega
      · exact ⟨.none, fun _ _ => .non, by show 0 ≤ 1000; omega, fun ys _ e => by cases e⟩
      · refine ⟨.tuple (List.replicate mn (.int (mn : Int))), fun H' S' => .tup (S'.kp.get (gE.D.off f4) f4) (dvAll_rep (.int _) mn), by show (List.replicate mn (PyData.int (mn : Int))).length ≤ 1000; rw [List.length_replicate]; omega, fun ys _ e => ?_⟩
        obtain ⟨z, e1, z0, z1⟩ := (kernel_data e).2 (.int (mn : Int)) (List.mem_replicate.mpr ⟨by omega, rfl⟩)
        have e1 : (mn : Int) = z := by injection e1
        omega
      · refine ⟨.tuple (List.replicate mn (.bool true)), fun H' S' => .tup (S'.kp.get (gE.D.off f6) f6) (dvAll_rep (.bl true) mn), by show (List.replicate mn (PyData.bool true)).length ≤ 1000; rw [List.length_replicate]; omega, fun ys _ e => ?_⟩
        obtain ⟨z, e1, z0, z1⟩ := (kernel_data e).2 (.bool true) (List.mem_replicate.mpr ⟨by omega, rfl⟩)
        cases e1
      · exact ⟨.str zz, fun _ _ => .str zz, by show 0 ≤ 1000; omega, fun ys _ e => by cases e⟩
      · refine ⟨.tuple (List.replicate (mn - 1) (.int 0) ++ [.int (mn : Int)]), fun H' S' => .tup (S'.kp.get (gE.D.off f8) f8) (dvAll_append (dvAll_rep (.int 0) _) (.cons (.int _) .nil)), by show (List.replicate (mn - 1) (PyData.int 0) ++ [PyData.int (mn : Int)]).length ≤ 1000; rw [List.length_append, List.length_replicate, List.length_singleton]; omega, fun ys _ e => ?_⟩
        obtain ⟨z, e1, z0, z1⟩ := (kernel_data e).2 (.int (mn : Int)) (List.mem_append_right _ List.mem_cons_self)
        have e1 : (mn : Int) = z := by injection e1
        omega
    obtain ⟨e5, K5, lz5, h5⟩ := hw5
    have g40 := gE.go D40 S40
    have LT40 : ListT H40 du kt := ⟨S40.kp.get ndu LTE.top, fun t ht => S40.kp.get (gE.D.off (LTE.row t ht)) (LTE.row t ht)⟩
    refine ⟨_, rfl, _, rfl, m, v5, e5, (A : Int), us, rfl, g40.M, gMu, by omega, (K5.go S40).dv, lz5, fun H41 S41 _ => ?_, fun H' t' kk r' S' ek L _ _ => ?_⟩
    rotate_left
    · rw [eA, eR] at L
      exact absurd (by rw [ek, L.2.1]) (h5 r' L.1)
    refine ⟨rfl, _, rfl, iteND rfl ?_⟩
    have g41 := g40.same S41
    have LT41 := LT40.same S41
    have ho41 := LT41.row t1 hm1
    -- near ones
    refine ⟨_, rfl, t1.1, _, rfl, .inr (SqT.of ho41), fun nr hnr => ?_⟩
    refine norm (σ' := [some (.ref sa), some (.ref d), some (.int (A : Int)), some (.ref g), some (.ref m), some (.ref du), some (.ref sd), v7, some (.ref rp), some (.ref fo), some (.ref t1.1), some (.ref t2'.1), some (.ref mp), some (.int (j : Int)), some (.ref p7), some (.int (mn : Int)), some (.ref od), some v5, some (.ref nr)]) rfl ?_
    have g42 := g41.new (o := HO.lst (t1.2.map V.int)) hnr
    have nnr : ¬ dl d l nr := g41.D.free hnr
    have hnr' : upd H41 nr (HO.lst (t1.2.map V.int)) nr = _ := upd_same
    have LT42 := LT41.same (Same.new (o := HO.lst (t1.2.map V.int)) hnr)
    obtain ⟨H42, eH42⟩ : ∃ H42, H42 = upd H41 nr (HO.lst (t1.2.map V.int)) := ⟨_, rfl⟩
    have hdn : du ≠ nr := fun e => by
      have h := LT41.top
      rw [e, hnr] at h
      cases h
    have htn : ∀ t ∈ kt, t.1 ≠ nr := fun t ht e => by
      have h := LT41.row t ht
      rw [e, hnr] at h
      cases h
    rw [← eH42] at g42 hnr' LT42 ⊢
    clear eH42
    refine ⟨_, rfl, _, rfl, d, l, _, rfl, by omega, by omega, g42.D, fun H43 z D43 S43 z0 z1 => ⟨_, rfl, _, rfl, _, rfl, d, l, _, rfl, by omega, by omega, D43, fun H44 y D44 S44 y0 y1 => ?_⟩⟩
    have S4244 := S43.trans S44
    obtain ⟨jy, rfl⟩ : ∃ jy : Nat, y = (jy : Int) := ⟨y.toNat, by omega⟩
    have g44 := g42.go D44 S4244
    have LT44 : ListT H44 du kt := ⟨S4244.kp.get ndu LT42.top, fun t ht => S4244.kp.get (g42.D.off (LT42.row t ht)) (LT42.row t ht)⟩
    refine ⟨nr, _, (jy : Int), jy, rfl, rfl, S4244.kp.get nnr hnr', (by unfold ixN; rw [if_pos (by omega), if_pos (by rw [List.length_map]; omega), Int.toNat_natCast]), ?_⟩
    rw [← List.map_set]
    have hng : g ≠ nr := fun e => by
      have h := g41.G.top
      rw [e, hnr] at h
      cases h
    have hnt : ∀ t ∈ ts, t.1 ≠ nr := fun t ht e => by
      have h := g41.G.row t ht
      rw [e, hnr] at h
      cases h
    have g45 := g44.upd (o := HO.lst ((t1.2.set jy z).map V.int)) (S4244.kp.get nnr hnr') nnr hng hnt
    have hn45 : upd H44 nr (HO.lst ((t1.2.set jy z).map V.int)) nr = _ := upd_same
    have LT45 : ListT (upd H44 nr (HO.lst ((t1.2.set jy z).map V.int))) du kt := ⟨(upd_ne hdn).trans LT44.top, fun t ht => (upd_ne (htn t ht)).trans (LT44.row t ht)⟩
    obtain ⟨H45, eH45⟩ : ∃ H45, H45 = upd H44 nr (HO.lst ((t1.2.set jy z).map V.int)) := ⟨_, rfl⟩
    rw [← eH45] at g45 hn45 LT45 ⊢
    clear eH45
    obtain ⟨wz, ewz⟩ : ∃ wz, wz = t1.2.set jy z := ⟨_, rfl⟩
    have lwz : wz.length = ts.length := by rw [ewz, List.length_set, l1]
    rw [← ewz] at hn45
    refine ⟨_, rfl, _, rfl, .inl ⟨nr, _, rfl, SqL.of hn45, fun tn htn' => ?_⟩⟩
    have g46 := g45.new (o := HO.tup (wz.map V.int)) htn'
    have LT46 := LT45.same (Same.new (o := HO.tup (wz.map V.int)) htn')
    have hn46 : upd H45 tn (HO.tup (wz.map V.int)) nr = some (HO.lst (wz.map V.int)) := nk hn45 htn'
    have fin : ∀ (H' : Hp) (v : V), Same (upd H45 tn (HO.tup (wz.map V.int))) H' → decide (v = V.non) = !decide (wz ∈ kt.map (·.2)) → True := fun _ _ _ _ => True.intro
    refine ⟨m, .ref tn, .tuple (wz.map PyData.int), (A : Int), us, rfl, g46.M, gMu, by omega, .tup upd_same (dvAll_ints _), by show (wz.map PyData.int).length ≤ 1000; rw [List.length_map]; omega, fun H47 S47 h => ?_, fun H47 t' kk r' S47 ek L _ _ => ?_⟩
    · rw [eA, eR] at h
      have hno : wz ∉ kt.map (·.2) := fun hm => by
        obtain ⟨t, ht, e⟩ := List.mem_map.mp hm
        obtain ⟨nn, na, ne⟩ := KK.ker t ht
        exact h nn na (by rw [← e, ne])
      refine ⟨rfl, _, rfl, .inl ⟨nr, _, rfl, SqL.of (S47 _ _ hn46), fun tm htm => ⟨_, rfl, rowP wz, _, .tup (SqT.of upd_same) (dpAll_ints _), dp_listT ((LT46.same S47).same (Same.new htm)), shaped_rowP _, lay_rowsT _, ?_⟩⟩⟩
      rw [any_rowsK, decide_eq_false hno, decide_eq_true (rfl : V.non = V.non)]
      refine ⟨rfl, ?_⟩
      rw [decide_eq_false (show ¬ V.bl true = V.bl false from fun e => by cases e)]
      exact k _
    · rw [eA, eR] at L
      have ek : wz = kk := pints_inj (by injection ek)
      have hyes : wz ∈ kt.map (·.2) := by
        rw [ek, ← L.2.1]
        exact KK.all r' L.1
      refine ⟨rfl, _, rfl, .inl ⟨nr, _, rfl, SqL.of (S47 _ _ hn46), fun tm htm => ⟨_, rfl, rowP wz, _, .tup (SqT.of upd_same) (dpAll_ints _), dp_listT ((LT46.same S47).same (Same.new htm)), shaped_rowP _, lay_rowsT _, ?_⟩⟩⟩
      rw [any_rowsK, decide_eq_true hyes, decide_eq_false (show ¬ V.ref t' = V.non from fun e => by cases e)]
      refine ⟨rfl, ?_⟩
      rw [decide_eq_false (show ¬ V.bl false = V.bl true from fun e => by cases e)]
      exact k _

end
end Lk

set_option Elab.async false
set_option linter.all false
set_option maxRecDepth 100000
set_option maxHeartbeats 4000000
namespace Lk
open PySem L2
theorem mk_is_integer {K : PySem.W.Frag} {h : Heap} {mg : Str → Option Value} {f : Addr} {od an : Option Addr} {sl : Array (Option Value)} {oc kV dc pm cd ct : Value} (X : K.In h) (G : h.Ns mainGlobals mg) (a : PySem.W.nsIn K mainGlobals "is_integer" = some (some (.ref f))) (l : K.lookup f = some ⟨oc, od, .func (PySem.W.fnOf "is_integer" "is_integer" (defArgs s_is_integer) (defBody s_is_integer) (defScope s_is_integer) .none kV dc pm an cd ct), sl⟩) (c : PySem.W.codeIn K cd "is_integer" = true) (k : PySem.W.keepIn K (.ref f) = true) :
    Df K mg "is_integer" s_is_integer f (PySem.W.fnOf "is_integer" "is_integer" (defArgs s_is_integer) (defBody s_is_integer) (defScope s_is_integer) .none kV dc pm an cd ct) P_is_integer := ⟨fun_mk (st := s_is_integer) l c k, PySem.W.mg_of X G a, (fun_mk (st := s_is_integer) l c k).binds fun _ _ _ _ _ _ us hl => match us, hl with | [_], _ => rfl⟩
theorem mk_is_number {K : PySem.W.Frag} {h : Heap} {mg : Str → Option Value} {f : Addr} {od an : Option Addr} {sl : Array (Option Value)} {oc kV dc pm cd ct : Value} (X : K.In h) (G : h.Ns mainGlobals mg) (a : PySem.W.nsIn K mainGlobals "is_number" = some (some (.ref f))) (l : K.lookup f = some ⟨oc, od, .func (PySem.W.fnOf "is_number" "is_number" (defArgs s_is_number) (defBody s_is_number) (defScope s_is_number) .none kV dc pm an cd ct), sl⟩) (c : PySem.W.codeIn K cd "is_number" = true) (k : PySem.W.keepIn K (.ref f) = true) :
    Df K mg "is_number" s_is_number f (PySem.W.fnOf "is_number" "is_number" (defArgs s_is_number) (defBody s_is_number) (defScope s_is_number) .none kV dc pm an cd ct) P_is_number := ⟨fun_mk (st := s_is_number) l c k, PySem.W.mg_of X G a, (fun_mk (st := s_is_number) l c k).binds fun _ _ _ _ _ _ us hl => match us, hl with | [_], _ => rfl⟩
theorem mk_is_below {K : PySem.W.Frag} {h : Heap} {mg : Str → Option Value} {f : Addr} {od an : Option Addr} {sl : Array (Option Value)} {oc kV dc pm cd ct : Value} (X : K.In h) (G : h.Ns mainGlobals mg) (a : PySem.W.nsIn K mainGlobals "is_below" = some (some (.ref f))) (l : K.lookup f = some ⟨oc, od, .func (PySem.W.fnOf "is_below" "is_below" (defArgs s_is_below) (defBody s_is_below) (defScope s_is_below) .none kV dc pm an cd ct), sl⟩) (c : PySem.W.codeIn K cd "is_below" = true) (k : PySem.W.keepIn K (.ref f) = true) :
    Df K mg "is_below" s_is_below f (PySem.W.fnOf "is_below" "is_below" (defArgs s_is_below) (defBody s_is_below) (defScope s_is_below) .none kV dc pm an cd ct) P_is_below := ⟨fun_mk (st := s_is_below) l c k, PySem.W.mg_of X G a, (fun_mk (st := s_is_below) l c k).binds fun _ _ _ _ _ _ us hl => match us, hl with | [_, _], _ => rfl⟩
theorem mk_is_sequence {K : PySem.W.Frag} {h : Heap} {mg : Str → Option Value} {f : Addr} {od an : Option Addr} {sl : Array (Option Value)} {oc kV dc pm cd ct : Value} (X : K.In h) (G : h.Ns mainGlobals mg) (a : PySem.W.nsIn K mainGlobals "is_sequence" = some (some (.ref f))) (l : K.lookup f = some ⟨oc, od, .func (PySem.W.fnOf "is_sequence" "is_sequence" (defArgs s_is_sequence) (defBody s_is_sequence) (defScope s_is_sequence) .none kV dc pm an cd ct), sl⟩) (c : PySem.W.codeIn K cd "is_sequence" = true) (k : PySem.W.keepIn K (.ref f) = true) :
    Df K mg "is_sequence" s_is_sequence f (PySem.W.fnOf "is_sequence" "is_sequence" (defArgs s_is_sequence) (defBody s_is_sequence) (defScope s_is_sequence) .none kV dc pm an cd ct) P_is_sequence := ⟨fun_mk (st := s_is_sequence) l c k, PySem.W.mg_of X G a, (fun_mk (st := s_is_sequence) l c k).binds fun _ _ _ _ _ _ us hl => match us, hl with | [_], _ => rfl⟩
theorem mk_are_below {K : PySem.W.Frag} {h : Heap} {mg : Str → Option Value} {f : Addr} {od an : Option Addr} {sl : Array (Option Value)} {oc kV dc pm cd ct : Value} (X : K.In h) (G : h.Ns mainGlobals mg) (a : PySem.W.nsIn K mainGlobals "are_below" = some (some (.ref f))) (l : K.lookup f = some ⟨oc, od, .func (PySem.W.fnOf "are_below" "are_below" (defArgs s_are_below) (defBody s_are_below) (defScope s_are_below) .none kV dc pm an cd ct), sl⟩) (c : PySem.W.codeIn K cd "are_below" = true) (k : PySem.W.keepIn K (.ref f) = true) :
    Df K mg "are_below" s_are_below f (PySem.W.fnOf "are_below" "are_below" (defArgs s_are_below) (defBody s_are_below) (defScope s_are_below) .none kV dc pm an cd ct) P_are_below := ⟨fun_mk (st := s_are_below) l c k, PySem.W.mg_of X G a, (fun_mk (st := s_are_below) l c k).binds fun _ _ _ _ _ _ us hl => match us, hl with | [_, _], _ => rfl⟩
theorem mk_is_tuple_below {K : PySem.W.Frag} {h : Heap} {mg : Str → Option Value} {f : Addr} {od an : Option Addr} {sl : Array (Option Value)} {oc kV dc pm cd ct : Value} (X : K.In h) (G : h.Ns mainGlobals mg) (a : PySem.W.nsIn K mainGlobals "is_tuple_below" = some (some (.ref f))) (l : K.lookup f = some ⟨oc, od, .func (PySem.W.fnOf "is_tuple_below" "is_tuple_below" (defArgs s_is_tuple_below) (defBody s_is_tuple_below) (defScope s_is_tuple_below) .none kV dc pm an cd ct), sl⟩) (c : PySem.W.codeIn K cd "is_tuple_below" = true) (k : PySem.W.keepIn K (.ref f) = true) :
    Df K mg "is_tuple_below" s_is_tuple_below f (PySem.W.fnOf "is_tuple_below" "is_tuple_below" (defArgs s_is_tuple_below) (defBody s_is_tuple_below) (defScope s_is_tuple_below) .none kV dc pm an cd ct) P_is_tuple_below := ⟨fun_mk (st := s_is_tuple_below) l c k, PySem.W.mg_of X G a, (fun_mk (st := s_is_tuple_below) l c k).binds fun _ _ _ _ _ _ us hl => match us, hl with | [_, _], _ => rfl⟩
theorem mk_is_entry {K : PySem.W.Frag} {h : Heap} {mg : Str → Option Value} {f : Addr} {od an : Option Addr} {sl : Array (Option Value)} {oc kV dc pm cd ct : Value} (X : K.In h) (G : h.Ns mainGlobals mg) (a : PySem.W.nsIn K mainGlobals "_is_entry" = some (some (.ref f))) (l : K.lookup f = some ⟨oc, od, .func (PySem.W.fnOf "_is_entry" "_is_entry" (defArgs s_is_entry) (defBody s_is_entry) (defScope s_is_entry) .none kV dc pm an cd ct), sl⟩) (c : PySem.W.codeIn K cd "_is_entry" = true) (k : PySem.W.keepIn K (.ref f) = true) :
    Df K mg "_is_entry" s_is_entry f (PySem.W.fnOf "_is_entry" "_is_entry" (defArgs s_is_entry) (defBody s_is_entry) (defScope s_is_entry) .none kV dc pm an cd ct) P_is_entry := ⟨fun_mk (st := s_is_entry) l c k, PySem.W.mg_of X G a, (fun_mk (st := s_is_entry) l c k).binds fun _ _ _ _ _ _ us hl => match us, hl with | [_, _, _], _ => rfl⟩
theorem mk_is_command {K : PySem.W.Frag} {h : Heap} {mg : Str → Option Value} {f : Addr} {od an : Option Addr} {sl : Array (Option Value)} {oc kV dc pm cd ct : Value} (X : K.In h) (G : h.Ns mainGlobals mg) (a : PySem.W.nsIn K mainGlobals "is_command" = some (some (.ref f))) (l : K.lookup f = some ⟨oc, od, .func (PySem.W.fnOf "is_command" "is_command" (defArgs s_is_command) (defBody s_is_command) (defScope s_is_command) .none kV dc pm an cd ct), sl⟩) (c : PySem.W.codeIn K cd "is_command" = true) (k : PySem.W.keepIn K (.ref f) = true) :
    Df K mg "is_command" s_is_command f (PySem.W.fnOf "is_command" "is_command" (defArgs s_is_command) (defBody s_is_command) (defScope s_is_command) .none kV dc pm an cd ct) P_is_command := ⟨fun_mk (st := s_is_command) l c k, PySem.W.mg_of X G a, (fun_mk (st := s_is_command) l c k).binds fun _ _ _ _ _ _ us hl => match us, hl with | [_, _], _ => rfl⟩
theorem mk_is_state_tuple {K : PySem.W.Frag} {h : Heap} {mg : Str → Option Value} {f : Addr} {od an : Option Addr} {sl : Array (Option Value)} {oc kV dc pm cd ct : Value} (X : K.In h) (G : h.Ns mainGlobals mg) (a : PySem.W.nsIn K mainGlobals "is_state_tuple" = some (some (.ref f))) (l : K.lookup f = some ⟨oc, od, .func (PySem.W.fnOf "is_state_tuple" "is_state_tuple" (defArgs s_is_state_tuple) (defBody s_is_state_tuple) (defScope s_is_state_tuple) .none kV dc pm an cd ct), sl⟩) (c : PySem.W.codeIn K cd "is_state_tuple" = true) (k : PySem.W.keepIn K (.ref f) = true) :
    Df K mg "is_state_tuple" s_is_state_tuple f (PySem.W.fnOf "is_state_tuple" "is_state_tuple" (defArgs s_is_state_tuple) (defBody s_is_state_tuple) (defScope s_is_state_tuple) .none kV dc pm an cd ct) P_is_state_tuple := ⟨fun_mk (st := s_is_state_tuple) l c k, PySem.W.mg_of X G a, (fun_mk (st := s_is_state_tuple) l c k).binds fun _ _ _ _ _ _ us hl => match us, hl with | [_, _], _ => rfl⟩
theorem mk_checked_row {K : PySem.W.Frag} {h : Heap} {mg : Str → Option Value} {f : Addr} {od an : Option Addr} {sl : Array (Option Value)} {oc kV dc pm cd ct : Value} (X : K.In h) (G : h.Ns mainGlobals mg) (a : PySem.W.nsIn K mainGlobals "checked_row" = some (some (.ref f))) (l : K.lookup f = some ⟨oc, od, .func (PySem.W.fnOf "checked_row" "checked_row" (defArgs s_checked_row) (defBody s_checked_row) (defScope s_checked_row) .none kV dc pm an cd ct), sl⟩) (c : PySem.W.codeIn K cd "checked_row" = true) (k : PySem.W.keepIn K (.ref f) = true) :
    Df K mg "checked_row" s_checked_row f (PySem.W.fnOf "checked_row" "checked_row" (defArgs s_checked_row) (defBody s_checked_row) (defScope s_checked_row) .none kV dc pm an cd ct) P_checked_row := ⟨fun_mk (st := s_checked_row) l c k, PySem.W.mg_of X G a, (fun_mk (st := s_checked_row) l c k).binds fun _ _ _ _ _ _ us hl => match us, hl with | [_, _], _ => rfl⟩
theorem mk_resting {K : PySem.W.Frag} {h : Heap} {mg : Str → Option Value} {f : Addr} {od an : Option Addr} {sl : Array (Option Value)} {oc kV dc pm cd ct : Value} (X : K.In h) (G : h.Ns mainGlobals mg) (a : PySem.W.nsIn K mainGlobals "resting" = some (some (.ref f))) (l : K.lookup f = some ⟨oc, od, .func (PySem.W.fnOf "resting" "resting" (defArgs s_resting) (defBody s_resting) (defScope s_resting) .none kV dc pm an cd ct), sl⟩) (c : PySem.W.codeIn K cd "resting" = true) (k : PySem.W.keepIn K (.ref f) = true) :
    Df K mg "resting" s_resting f (PySem.W.fnOf "resting" "resting" (defArgs s_resting) (defBody s_resting) (defScope s_resting) .none kV dc pm an cd ct) P_resting := ⟨fun_mk (st := s_resting) l c k, PySem.W.mg_of X G a, (fun_mk (st := s_resting) l c k).binds fun _ _ _ _ _ _ us hl => match us, hl with | [_], _ => rfl⟩
theorem mk_effects {K : PySem.W.Frag} {h : Heap} {mg : Str → Option Value} {f : Addr} {od an : Option Addr} {sl : Array (Option Value)} {oc kV dc pm cd ct : Value} (X : K.In h) (G : h.Ns mainGlobals mg) (a : PySem.W.nsIn K mainGlobals "effects" = some (some (.ref f))) (l : K.lookup f = some ⟨oc, od, .func (PySem.W.fnOf "effects" "effects" (defArgs s_effects) (defBody s_effects) (defScope s_effects) .none kV dc pm an cd ct), sl⟩) (c : PySem.W.codeIn K cd "effects" = true) (k : PySem.W.keepIn K (.ref f) = true) :
    Df K mg "effects" s_effects f (PySem.W.fnOf "effects" "effects" (defArgs s_effects) (defBody s_effects) (defScope s_effects) .none kV dc pm an cd ct) P_effects := ⟨fun_mk (st := s_effects) l c k, PySem.W.mg_of X G a, (fun_mk (st := s_effects) l c k).binds fun _ _ _ _ _ _ us hl => match us, hl with | [_], _ => rfl⟩
theorem mk_followed {K : PySem.W.Frag} {h : Heap} {mg : Str → Option Value} {f : Addr} {od an : Option Addr} {sl : Array (Option Value)} {oc kV dc pm cd ct : Value} (X : K.In h) (G : h.Ns mainGlobals mg) (a : PySem.W.nsIn K mainGlobals "followed" = some (some (.ref f))) (l : K.lookup f = some ⟨oc, od, .func (PySem.W.fnOf "followed" "followed" (defArgs s_followed) (defBody s_followed) (defScope s_followed) .none kV dc pm an cd ct), sl⟩) (c : PySem.W.codeIn K cd "followed" = true) (k : PySem.W.keepIn K (.ref f) = true) :
    Df K mg "followed" s_followed f (PySem.W.fnOf "followed" "followed" (defArgs s_followed) (defBody s_followed) (defScope s_followed) .none kV dc pm an cd ct) P_followed := ⟨fun_mk (st := s_followed) l c k, PySem.W.mg_of X G a, (fun_mk (st := s_followed) l c k).binds fun _ _ _ _ _ _ us hl => match us, hl with | [_, _], _ => rfl⟩
theorem mk_effect {K : PySem.W.Frag} {h : Heap} {mg : Str → Option Value} {f : Addr} {od an : Option Addr} {sl : Array (Option Value)} {oc kV dc pm cd ct : Value} (X : K.In h) (G : h.Ns mainGlobals mg) (a : PySem.W.nsIn K mainGlobals "effect" = some (some (.ref f))) (l : K.lookup f = some ⟨oc, od, .func (PySem.W.fnOf "effect" "effect" (defArgs s_effect) (defBody s_effect) (defScope s_effect) .none kV dc pm an cd ct), sl⟩) (c : PySem.W.codeIn K cd "effect" = true) (k : PySem.W.keepIn K (.ref f) = true) :
    Df K mg "effect" s_effect f (PySem.W.fnOf "effect" "effect" (defArgs s_effect) (defBody s_effect) (defScope s_effect) .none kV dc pm an cd ct) P_effect := ⟨fun_mk (st := s_effect) l c k, PySem.W.mg_of X G a, (fun_mk (st := s_effect) l c k).binds fun _ _ _ _ _ _ us hl => match us, hl with | [_, _], _ => rfl⟩
theorem mk_kernel {K : PySem.W.Frag} {h : Heap} {mg : Str → Option Value} {f : Addr} {od an : Option Addr} {sl : Array (Option Value)} {oc kV dc pm cd ct : Value} (X : K.In h) (G : h.Ns mainGlobals mg) (a : PySem.W.nsIn K mainGlobals "kernel" = some (some (.ref f))) (l : K.lookup f = some ⟨oc, od, .func (PySem.W.fnOf "kernel" "kernel" (defArgs s_kernel) (defBody s_kernel) (defScope s_kernel) .none kV dc pm an cd ct), sl⟩) (c : PySem.W.codeIn K cd "kernel" = true) (k : PySem.W.keepIn K (.ref f) = true) :
    Df K mg "kernel" s_kernel f (PySem.W.fnOf "kernel" "kernel" (defArgs s_kernel) (defBody s_kernel) (defScope s_kernel) .none kV dc pm an cd ct) P_kernel := ⟨fun_mk (st := s_kernel) l c k, PySem.W.mg_of X G a, (fun_mk (st := s_kernel) l c k).binds fun _ _ _ _ _ _ us hl => match us, hl with | [_, _], _ => rfl⟩
theorem mk_kernel_of {K : PySem.W.Frag} {h : Heap} {mg : Str → Option Value} {f : Addr} {od an : Option Addr} {sl : Array (Option Value)} {oc kV dc pm cd ct : Value} (X : K.In h) (G : h.Ns mainGlobals mg) (a : PySem.W.nsIn K mainGlobals "kernel_of" = some (some (.ref f))) (l : K.lookup f = some ⟨oc, od, .func (PySem.W.fnOf "kernel_of" "kernel_of" (defArgs s_kernel_of) (defBody s_kernel_of) (defScope s_kernel_of) .none kV dc pm an cd ct), sl⟩) (c : PySem.W.codeIn K cd "kernel_of" = true) (k : PySem.W.keepIn K (.ref f) = true) :
    Df K mg "kernel_of" s_kernel_of f (PySem.W.fnOf "kernel_of" "kernel_of" (defArgs s_kernel_of) (defBody s_kernel_of) (defScope s_kernel_of) .none kV dc pm an cd ct) P_kernel_of := ⟨fun_mk (st := s_kernel_of) l c k, PySem.W.mg_of X G a, (fun_mk (st := s_kernel_of) l c k).binds fun _ _ _ _ _ _ us hl => match us, hl with | [_], _ => rfl⟩
theorem mk_kernel_ahead {K : PySem.W.Frag} {h : Heap} {mg : Str → Option Value} {f : Addr} {od an : Option Addr} {sl : Array (Option Value)} {oc kV dc pm cd ct : Value} (X : K.In h) (G : h.Ns mainGlobals mg) (a : PySem.W.nsIn K mainGlobals "kernel_ahead" = some (some (.ref f))) (l : K.lookup f = some ⟨oc, od, .func (PySem.W.fnOf "kernel_ahead" "kernel_ahead" (defArgs s_kernel_ahead) (defBody s_kernel_ahead) (defScope s_kernel_ahead) .none kV dc pm an cd ct), sl⟩) (c : PySem.W.codeIn K cd "kernel_ahead" = true) (k : PySem.W.keepIn K (.ref f) = true) :
    Df K mg "kernel_ahead" s_kernel_ahead f (PySem.W.fnOf "kernel_ahead" "kernel_ahead" (defArgs s_kernel_ahead) (defBody s_kernel_ahead) (defScope s_kernel_ahead) .none kV dc pm an cd ct) P_kernel_ahead := ⟨fun_mk (st := s_kernel_ahead) l c k, PySem.W.mg_of X G a, (fun_mk (st := s_kernel_ahead) l c k).binds fun _ _ _ _ _ _ us hl => match us, hl with | [_, _], _ => rfl⟩
theorem mk_climbs {K : PySem.W.Frag} {h : Heap} {mg : Str → Option Value} {f : Addr} {od an : Option Addr} {sl : Array (Option Value)} {oc kV dc pm cd ct : Value} (X : K.In h) (G : h.Ns mainGlobals mg) (a : PySem.W.nsIn K mainGlobals "climbs" = some (some (.ref f))) (l : K.lookup f = some ⟨oc, od, .func (PySem.W.fnOf "climbs" "climbs" (defArgs s_climbs) (defBody s_climbs) (defScope s_climbs) .none kV dc pm an cd ct), sl⟩) (c : PySem.W.codeIn K cd "climbs" = true) (k : PySem.W.keepIn K (.ref f) = true) :
    Df K mg "climbs" s_climbs f (PySem.W.fnOf "climbs" "climbs" (defArgs s_climbs) (defBody s_climbs) (defScope s_climbs) .none kV dc pm an cd ct) P_climbs := ⟨fun_mk (st := s_climbs) l c k, PySem.W.mg_of X G a, (fun_mk (st := s_climbs) l c k).binds fun _ _ _ _ _ _ us hl => match us, hl with | [_], _ => rfl⟩
theorem mk_kernels {K : PySem.W.Frag} {h : Heap} {mg : Str → Option Value} {f : Addr} {od an : Option Addr} {sl : Array (Option Value)} {oc kV dc pm cd ct : Value} (X : K.In h) (G : h.Ns mainGlobals mg) (a : PySem.W.nsIn K mainGlobals "kernels" = some (some (.ref f))) (l : K.lookup f = some ⟨oc, od, .func (PySem.W.fnOf "kernels" "kernels" (defArgs s_kernels) (defBody s_kernels) (defScope s_kernels) .none kV dc pm an cd ct), sl⟩) (c : PySem.W.codeIn K cd "kernels" = true) (k : PySem.W.keepIn K (.ref f) = true) :
    Df K mg "kernels" s_kernels f (PySem.W.fnOf "kernels" "kernels" (defArgs s_kernels) (defBody s_kernels) (defScope s_kernels) .none kV dc pm an cd ct) P_kernels := ⟨fun_mk (st := s_kernels) l c k, PySem.W.mg_of X G a, (fun_mk (st := s_kernels) l c k).binds fun _ _ _ _ _ _ us hl => match us, hl with | [_], _ => rfl⟩
theorem mk_is_division {K : PySem.W.Frag} {h : Heap} {mg : Str → Option Value} {f : Addr} {od an : Option Addr} {sl : Array (Option Value)} {oc kV dc pm cd ct : Value} (X : K.In h) (G : h.Ns mainGlobals mg) (a : PySem.W.nsIn K mainGlobals "is_division" = some (some (.ref f))) (l : K.lookup f = some ⟨oc, od, .func (PySem.W.fnOf "is_division" "is_division" (defArgs s_is_division) (defBody s_is_division) (defScope s_is_division) .none kV dc pm an cd ct), sl⟩) (c : PySem.W.codeIn K cd "is_division" = true) (k : PySem.W.keepIn K (.ref f) = true) :
    Df K mg "is_division" s_is_division f (PySem.W.fnOf "is_division" "is_division" (defArgs s_is_division) (defBody s_is_division) (defScope s_is_division) .none kV dc pm an cd ct) P_is_division := ⟨fun_mk (st := s_is_division) l c k, PySem.W.mg_of X G a, (fun_mk (st := s_is_division) l c k).binds fun _ _ _ _ _ _ us hl => match us, hl with | [_, _], _ => rfl⟩
theorem mk_row_of_kernel {K : PySem.W.Frag} {h : Heap} {mg : Str → Option Value} {f : Addr} {od an : Option Addr} {sl : Array (Option Value)} {oc kV dc pm cd ct : Value} (X : K.In h) (G : h.Ns mainGlobals mg) (a : PySem.W.nsIn K mainGlobals "row_of_kernel" = some (some (.ref f))) (l : K.lookup f = some ⟨oc, od, .func (PySem.W.fnOf "row_of_kernel" "row_of_kernel" (defArgs s_row_of_kernel) (defBody s_row_of_kernel) (defScope s_row_of_kernel) .none kV dc pm an cd ct), sl⟩) (c : PySem.W.codeIn K cd "row_of_kernel" = true) (k : PySem.W.keepIn K (.ref f) = true) :
    Df K mg "row_of_kernel" s_row_of_kernel f (PySem.W.fnOf "row_of_kernel" "row_of_kernel" (defArgs s_row_of_kernel) (defBody s_row_of_kernel) (defScope s_row_of_kernel) .none kV dc pm an cd ct) P_row_of_kernel := ⟨fun_mk (st := s_row_of_kernel) l c k, PySem.W.mg_of X G a, (fun_mk (st := s_row_of_kernel) l c k).binds fun _ _ _ _ _ _ us hl => match us, hl with | [_, _], _ => rfl⟩
theorem mk_row_told {K : PySem.W.Frag} {h : Heap} {mg : Str → Option Value} {f : Addr} {od an : Option Addr} {sl : Array (Option Value)} {oc kV dc pm cd ct : Value} (X : K.In h) (G : h.Ns mainGlobals mg) (a : PySem.W.nsIn K mainGlobals "_row_told" = some (some (.ref f))) (l : K.lookup f = some ⟨oc, od, .func (PySem.W.fnOf "_row_told" "_row_told" (defArgs s_row_told) (defBody s_row_told) (defScope s_row_told) .none kV dc pm an cd ct), sl⟩) (c : PySem.W.codeIn K cd "_row_told" = true) (k : PySem.W.keepIn K (.ref f) = true) :
    Df K mg "_row_told" s_row_told f (PySem.W.fnOf "_row_told" "_row_told" (defArgs s_row_told) (defBody s_row_told) (defScope s_row_told) .none kV dc pm an cd ct) P_row_told := ⟨fun_mk (st := s_row_told) l c k, PySem.W.mg_of X G a, (fun_mk (st := s_row_told) l c k).binds fun _ _ _ _ _ _ us hl => match us, hl with | [_, _], _ => rfl⟩
theorem mk_is_within {K : PySem.W.Frag} {h : Heap} {mg : Str → Option Value} {f : Addr} {od an : Option Addr} {sl : Array (Option Value)} {oc kV dc pm cd ct : Value} (X : K.In h) (G : h.Ns mainGlobals mg) (a : PySem.W.nsIn K mainGlobals "is_within" = some (some (.ref f))) (l : K.lookup f = some ⟨oc, od, .func (PySem.W.fnOf "is_within" "is_within" (defArgs s_is_within) (defBody s_is_within) (defScope s_is_within) .none kV dc pm an cd ct), sl⟩) (c : PySem.W.codeIn K cd "is_within" = true) (k : PySem.W.keepIn K (.ref f) = true) :
    Df K mg "is_within" s_is_within f (PySem.W.fnOf "is_within" "is_within" (defArgs s_is_within) (defBody s_is_within) (defScope s_is_within) .none kV dc pm an cd ct) P_is_within := ⟨fun_mk (st := s_is_within) l c k, PySem.W.mg_of X G a, (fun_mk (st := s_is_within) l c k).binds fun _ _ _ _ _ _ us hl => match us, hl with | [_, _], _ => rfl⟩
theorem mk_law_draw {K : PySem.W.Frag} {h : Heap} {mg : Str → Option Value} {f : Addr} {od an : Option Addr} {sl : Array (Option Value)} {oc kV dc pm cd ct : Value} (X : K.In h) (G : h.Ns mainGlobals mg) (a : PySem.W.nsIn K mainGlobals "_law_draw" = some (some (.ref f))) (l : K.lookup f = some ⟨oc, od, .func (PySem.W.fnOf "_law_draw" "_law_draw" (defArgs s_law_draw) (defBody s_law_draw) (defScope s_law_draw) .none kV dc pm an cd ct), sl⟩) (c : PySem.W.codeIn K cd "_law_draw" = true) (k : PySem.W.keepIn K (.ref f) = true) :
    Df K mg "_law_draw" s_law_draw f (PySem.W.fnOf "_law_draw" "_law_draw" (defArgs s_law_draw) (defBody s_law_draw) (defScope s_law_draw) .none kV dc pm an cd ct) P_law_draw := ⟨fun_mk (st := s_law_draw) l c k, PySem.W.mg_of X G a, (fun_mk (st := s_law_draw) l c k).binds fun _ _ _ _ _ _ us hl => match us, hl with | [_, _], _ => rfl⟩
theorem mk_law_any {K : PySem.W.Frag} {h : Heap} {mg : Str → Option Value} {f : Addr} {od an : Option Addr} {sl : Array (Option Value)} {oc kV dc pm cd ct : Value} (X : K.In h) (G : h.Ns mainGlobals mg) (a : PySem.W.nsIn K mainGlobals "_law_any" = some (some (.ref f))) (l : K.lookup f = some ⟨oc, od, .func (PySem.W.fnOf "_law_any" "_law_any" (defArgs s_law_any) (defBody s_law_any) (defScope s_law_any) .none kV dc pm an cd ct), sl⟩) (c : PySem.W.codeIn K cd "_law_any" = true) (k : PySem.W.keepIn K (.ref f) = true) :
    Df K mg "_law_any" s_law_any f (PySem.W.fnOf "_law_any" "_law_any" (defArgs s_law_any) (defBody s_law_any) (defScope s_law_any) .none kV dc pm an cd ct) P_law_any := ⟨fun_mk (st := s_law_any) l c k, PySem.W.mg_of X G a, (fun_mk (st := s_law_any) l c k).binds fun _ _ _ _ _ _ us hl => match us, hl with | [_, _], _ => rfl⟩
theorem mk_law_of {K : PySem.W.Frag} {h : Heap} {mg : Str → Option Value} {f : Addr} {od an : Option Addr} {sl : Array (Option Value)} {oc kV dc pm cd ct : Value} (X : K.In h) (G : h.Ns mainGlobals mg) (a : PySem.W.nsIn K mainGlobals "_law_of" = some (some (.ref f))) (l : K.lookup f = some ⟨oc, od, .func (PySem.W.fnOf "_law_of" "_law_of" (defArgs s_law_of) (defBody s_law_of) (defScope s_law_of) .none kV dc pm an cd ct), sl⟩) (c : PySem.W.codeIn K cd "_law_of" = true) (k : PySem.W.keepIn K (.ref f) = true) :
    Df K mg "_law_of" s_law_of f (PySem.W.fnOf "_law_of" "_law_of" (defArgs s_law_of) (defBody s_law_of) (defScope s_law_of) .none kV dc pm an cd ct) P_law_of := ⟨fun_mk (st := s_law_of) l c k, PySem.W.mg_of X G a, (fun_mk (st := s_law_of) l c k).binds fun _ _ _ _ _ _ us hl => match us, hl with | [_, _], _ => rfl⟩
theorem mk_law_mixed {K : PySem.W.Frag} {h : Heap} {mg : Str → Option Value} {f : Addr} {od an : Option Addr} {sl : Array (Option Value)} {oc kV dc pm cd ct : Value} (X : K.In h) (G : h.Ns mainGlobals mg) (a : PySem.W.nsIn K mainGlobals "_law_mixed" = some (some (.ref f))) (l : K.lookup f = some ⟨oc, od, .func (PySem.W.fnOf "_law_mixed" "_law_mixed" (defArgs s_law_mixed) (defBody s_law_mixed) (defScope s_law_mixed) .none kV dc pm an cd ct), sl⟩) (c : PySem.W.codeIn K cd "_law_mixed" = true) (k : PySem.W.keepIn K (.ref f) = true) :
    Df K mg "_law_mixed" s_law_mixed f (PySem.W.fnOf "_law_mixed" "_law_mixed" (defArgs s_law_mixed) (defBody s_law_mixed) (defScope s_law_mixed) .none kV dc pm an cd ct) P_law_mixed := ⟨fun_mk (st := s_law_mixed) l c k, PySem.W.mg_of X G a, (fun_mk (st := s_law_mixed) l c k).binds fun _ _ _ _ _ _ us hl => match us, hl with | [_, _], _ => rfl⟩
theorem mk_law_columns {K : PySem.W.Frag} {h : Heap} {mg : Str → Option Value} {f : Addr} {od an : Option Addr} {sl : Array (Option Value)} {oc kV dc pm cd ct : Value} (X : K.In h) (G : h.Ns mainGlobals mg) (a : PySem.W.nsIn K mainGlobals "_law_columns" = some (some (.ref f))) (l : K.lookup f = some ⟨oc, od, .func (PySem.W.fnOf "_law_columns" "_law_columns" (defArgs s_law_columns) (defBody s_law_columns) (defScope s_law_columns) .none kV dc pm an cd ct), sl⟩) (c : PySem.W.codeIn K cd "_law_columns" = true) (k : PySem.W.keepIn K (.ref f) = true) :
    Df K mg "_law_columns" s_law_columns f (PySem.W.fnOf "_law_columns" "_law_columns" (defArgs s_law_columns) (defBody s_law_columns) (defScope s_law_columns) .none kV dc pm an cd ct) P_law_columns := ⟨fun_mk (st := s_law_columns) l c k, PySem.W.mg_of X G a, (fun_mk (st := s_law_columns) l c k).binds fun _ _ _ _ _ _ us hl => match us, hl with | [_], _ => rfl⟩
theorem mk_law_column {K : PySem.W.Frag} {h : Heap} {mg : Str → Option Value} {f : Addr} {od an : Option Addr} {sl : Array (Option Value)} {oc kV dc pm cd ct : Value} (X : K.In h) (G : h.Ns mainGlobals mg) (a : PySem.W.nsIn K mainGlobals "_law_column" = some (some (.ref f))) (l : K.lookup f = some ⟨oc, od, .func (PySem.W.fnOf "_law_column" "_law_column" (defArgs s_law_column) (defBody s_law_column) (defScope s_law_column) .none kV dc pm an cd ct), sl⟩) (c : PySem.W.codeIn K cd "_law_column" = true) (k : PySem.W.keepIn K (.ref f) = true) :
    Df K mg "_law_column" s_law_column f (PySem.W.fnOf "_law_column" "_law_column" (defArgs s_law_column) (defBody s_law_column) (defScope s_law_column) .none kV dc pm an cd ct) P_law_column := ⟨fun_mk (st := s_law_column) l c k, PySem.W.mg_of X G a, (fun_mk (st := s_law_column) l c k).binds fun _ _ _ _ _ _ us hl => match us, hl with | [_, _, _], _ => rfl⟩
theorem mk_law_machine {K : PySem.W.Frag} {h : Heap} {mg : Str → Option Value} {f : Addr} {od an : Option Addr} {sl : Array (Option Value)} {oc kV dc pm cd ct : Value} (X : K.In h) (G : h.Ns mainGlobals mg) (a : PySem.W.nsIn K mainGlobals "_law_machine" = some (some (.ref f))) (l : K.lookup f = some ⟨oc, od, .func (PySem.W.fnOf "_law_machine" "_law_machine" (defArgs s_law_machine) (defBody s_law_machine) (defScope s_law_machine) .none kV dc pm an cd ct), sl⟩) (c : PySem.W.codeIn K cd "_law_machine" = true) (k : PySem.W.keepIn K (.ref f) = true) :
    Df K mg "_law_machine" s_law_machine f (PySem.W.fnOf "_law_machine" "_law_machine" (defArgs s_law_machine) (defBody s_law_machine) (defScope s_law_machine) .none kV dc pm an cd ct) P_law_machine := ⟨fun_mk (st := s_law_machine) l c k, PySem.W.mg_of X G a, (fun_mk (st := s_law_machine) l c k).binds fun _ _ _ _ _ _ us hl => match us, hl with | [_, _], _ => rfl⟩
theorem mk_law_row {K : PySem.W.Frag} {h : Heap} {mg : Str → Option Value} {f : Addr} {od an : Option Addr} {sl : Array (Option Value)} {oc kV dc pm cd ct : Value} (X : K.In h) (G : h.Ns mainGlobals mg) (a : PySem.W.nsIn K mainGlobals "_law_row" = some (some (.ref f))) (l : K.lookup f = some ⟨oc, od, .func (PySem.W.fnOf "_law_row" "_law_row" (defArgs s_law_row) (defBody s_law_row) (defScope s_law_row) .none kV dc pm an cd ct), sl⟩) (c : PySem.W.codeIn K cd "_law_row" = true) (k : PySem.W.keepIn K (.ref f) = true) :
    Df K mg "_law_row" s_law_row f (PySem.W.fnOf "_law_row" "_law_row" (defArgs s_law_row) (defBody s_law_row) (defScope s_law_row) .none kV dc pm an cd ct) P_law_row := ⟨fun_mk (st := s_law_row) l c k, PySem.W.mg_of X G a, (fun_mk (st := s_law_row) l c k).binds fun _ _ _ _ _ _ us hl => match us, hl with | [_, _, _], _ => rfl⟩
theorem mk_law_rows {K : PySem.W.Frag} {h : Heap} {mg : Str → Option Value} {f : Addr} {od an : Option Addr} {sl : Array (Option Value)} {oc kV dc pm cd ct : Value} (X : K.In h) (G : h.Ns mainGlobals mg) (a : PySem.W.nsIn K mainGlobals "_law_rows" = some (some (.ref f))) (l : K.lookup f = some ⟨oc, od, .func (PySem.W.fnOf "_law_rows" "_law_rows" (defArgs s_law_rows) (defBody s_law_rows) (defScope s_law_rows) .none kV dc pm an cd ct), sl⟩) (c : PySem.W.codeIn K cd "_law_rows" = true) (k : PySem.W.keepIn K (.ref f) = true) :
    Df K mg "_law_rows" s_law_rows f (PySem.W.fnOf "_law_rows" "_law_rows" (defArgs s_law_rows) (defBody s_law_rows) (defScope s_law_rows) .none kV dc pm an cd ct) P_law_rows := ⟨fun_mk (st := s_law_rows) l c k, PySem.W.mg_of X G a, (fun_mk (st := s_law_rows) l c k).binds fun _ _ _ _ _ _ us hl => match us, hl with | [_, _], _ => rfl⟩
theorem mk_law_led {K : PySem.W.Frag} {h : Heap} {mg : Str → Option Value} {f : Addr} {od an : Option Addr} {sl : Array (Option Value)} {oc kV dc pm cd ct : Value} (X : K.In h) (G : h.Ns mainGlobals mg) (a : PySem.W.nsIn K mainGlobals "_law_led" = some (some (.ref f))) (l : K.lookup f = some ⟨oc, od, .func (PySem.W.fnOf "_law_led" "_law_led" (defArgs s_law_led) (defBody s_law_led) (defScope s_law_led) .none kV dc pm an cd ct), sl⟩) (c : PySem.W.codeIn K cd "_law_led" = true) (k : PySem.W.keepIn K (.ref f) = true) :
    Df K mg "_law_led" s_law_led f (PySem.W.fnOf "_law_led" "_law_led" (defArgs s_law_led) (defBody s_law_led) (defScope s_law_led) .none kV dc pm an cd ct) P_law_led := ⟨fun_mk (st := s_law_led) l c k, PySem.W.mg_of X G a, (fun_mk (st := s_law_led) l c k).binds fun _ _ _ _ _ _ us hl => match us, hl with | [_, _, _], _ => rfl⟩
theorem mk_law_effect {K : PySem.W.Frag} {h : Heap} {mg : Str → Option Value} {f : Addr} {od an : Option Addr} {sl : Array (Option Value)} {oc kV dc pm cd ct : Value} (X : K.In h) (G : h.Ns mainGlobals mg) (a : PySem.W.nsIn K mainGlobals "_law_effect" = some (some (.ref f))) (l : K.lookup f = some ⟨oc, od, .func (PySem.W.fnOf "_law_effect" "_law_effect" (defArgs s_law_effect) (defBody s_law_effect) (defScope s_law_effect) .none kV dc pm an cd ct), sl⟩) (c : PySem.W.codeIn K cd "_law_effect" = true) (k : PySem.W.keepIn K (.ref f) = true) :
    Df K mg "_law_effect" s_law_effect f (PySem.W.fnOf "_law_effect" "_law_effect" (defArgs s_law_effect) (defBody s_law_effect) (defScope s_law_effect) .none kV dc pm an cd ct) P_law_effect := ⟨fun_mk (st := s_law_effect) l c k, PySem.W.mg_of X G a, (fun_mk (st := s_law_effect) l c k).binds fun _ _ _ _ _ _ us hl => match us, hl with | [_, _], _ => rfl⟩
theorem mk_law_kernel {K : PySem.W.Frag} {h : Heap} {mg : Str → Option Value} {f : Addr} {od an : Option Addr} {sl : Array (Option Value)} {oc kV dc pm cd ct : Value} (X : K.In h) (G : h.Ns mainGlobals mg) (a : PySem.W.nsIn K mainGlobals "_law_kernel" = some (some (.ref f))) (l : K.lookup f = some ⟨oc, od, .func (PySem.W.fnOf "_law_kernel" "_law_kernel" (defArgs s_law_kernel) (defBody s_law_kernel) (defScope s_law_kernel) .none kV dc pm an cd ct), sl⟩) (c : PySem.W.codeIn K cd "_law_kernel" = true) (k : PySem.W.keepIn K (.ref f) = true) :
    Df K mg "_law_kernel" s_law_kernel f (PySem.W.fnOf "_law_kernel" "_law_kernel" (defArgs s_law_kernel) (defBody s_law_kernel) (defScope s_law_kernel) .none kV dc pm an cd ct) P_law_kernel := ⟨fun_mk (st := s_law_kernel) l c k, PySem.W.mg_of X G a, (fun_mk (st := s_law_kernel) l c k).binds fun _ _ _ _ _ _ us hl => match us, hl with | [_, _], _ => rfl⟩
theorem mk_law_kernels {K : PySem.W.Frag} {h : Heap} {mg : Str → Option Value} {f : Addr} {od an : Option Addr} {sl : Array (Option Value)} {oc kV dc pm cd ct : Value} (X : K.In h) (G : h.Ns mainGlobals mg) (a : PySem.W.nsIn K mainGlobals "_law_kernels" = some (some (.ref f))) (l : K.lookup f = some ⟨oc, od, .func (PySem.W.fnOf "_law_kernels" "_law_kernels" (defArgs s_law_kernels) (defBody s_law_kernels) (defScope s_law_kernels) .none kV dc pm an cd ct), sl⟩) (c : PySem.W.codeIn K cd "_law_kernels" = true) (k : PySem.W.keepIn K (.ref f) = true) :
    Df K mg "_law_kernels" s_law_kernels f (PySem.W.fnOf "_law_kernels" "_law_kernels" (defArgs s_law_kernels) (defBody s_law_kernels) (defScope s_law_kernels) .none kV dc pm an cd ct) P_law_kernels := ⟨fun_mk (st := s_law_kernels) l c k, PySem.W.mg_of X G a, (fun_mk (st := s_law_kernels) l c k).binds fun _ _ _ _ _ _ us hl => match us, hl with | [_, _], _ => rfl⟩
theorem mk_law_within {K : PySem.W.Frag} {h : Heap} {mg : Str → Option Value} {f : Addr} {od an : Option Addr} {sl : Array (Option Value)} {oc kV dc pm cd ct : Value} (X : K.In h) (G : h.Ns mainGlobals mg) (a : PySem.W.nsIn K mainGlobals "_law_within" = some (some (.ref f))) (l : K.lookup f = some ⟨oc, od, .func (PySem.W.fnOf "_law_within" "_law_within" (defArgs s_law_within) (defBody s_law_within) (defScope s_law_within) .none kV dc pm an cd ct), sl⟩) (c : PySem.W.codeIn K cd "_law_within" = true) (k : PySem.W.keepIn K (.ref f) = true) :
    Df K mg "_law_within" s_law_within f (PySem.W.fnOf "_law_within" "_law_within" (defArgs s_law_within) (defBody s_law_within) (defScope s_law_within) .none kV dc pm an cd ct) P_law_within := ⟨fun_mk (st := s_law_within) l c k, PySem.W.mg_of X G a, (fun_mk (st := s_law_within) l c k).binds fun _ _ _ _ _ _ us hl => match us, hl with | [_, _], _ => rfl⟩
theorem mk_law_refused {K : PySem.W.Frag} {h : Heap} {mg : Str → Option Value} {f : Addr} {od an : Option Addr} {sl : Array (Option Value)} {oc kV dc pm cd ct : Value} (X : K.In h) (G : h.Ns mainGlobals mg) (a : PySem.W.nsIn K mainGlobals "_law_refused" = some (some (.ref f))) (l : K.lookup f = some ⟨oc, od, .func (PySem.W.fnOf "_law_refused" "_law_refused" (defArgs s_law_refused) (defBody s_law_refused) (defScope s_law_refused) .none kV dc pm an cd ct), sl⟩) (c : PySem.W.codeIn K cd "_law_refused" = true) (k : PySem.W.keepIn K (.ref f) = true) :
    Df K mg "_law_refused" s_law_refused f (PySem.W.fnOf "_law_refused" "_law_refused" (defArgs s_law_refused) (defBody s_law_refused) (defScope s_law_refused) .none kV dc pm an cd ct) P_law_refused := ⟨fun_mk (st := s_law_refused) l c k, PySem.W.mg_of X G a, (fun_mk (st := s_law_refused) l c k).binds fun _ _ _ _ _ _ us hl => match us, hl with | [_, _], _ => rfl⟩
/-- an error of a class is taken by a clause that names the class, or not -/
theorem exm_of {K : PySem.W.Frag} {S R : Addr} {b : Bool} (h1 : PySem.W.subIn K (.ref R) (.type "BaseException") = some true) (h2 : PySem.W.isClsIn K R = true) (h3 : PySem.W.typeIn K (.ref R) = some (.type "type")) (h4 : PySem.W.subIn K (.ref S) (.ref R) = some b) : PySem.W.exmOne K (.ref S) (.ref R) = some b := by
  have e1 : (PySem.W.subIn K (.ref R) (.type "BaseException") == some true) = true := by rw [h1] <;> rfl
  have e2 : ((PySem.W.clsIn K R).isSome && PySem.W.typeIn K (.ref R) == some (.type "type")) = true := by
    have q : (PySem.W.clsIn K R).isSome = true := h2
    rw [q, h3] <;> rfl
  show (if (PySem.W.subIn K (.ref R) (.type "BaseException") == some true) = true then (if ((PySem.W.clsIn K R).isSome && PySem.W.typeIn K (.ref R) == some (.type "type")) = true then PySem.W.subIn K (.ref S) (.ref R) else none) else none) = some b
  rw [if_pos e1, if_pos e2]
  exact h4
/-- what is told of an error's class and of its __init__ -/
structure ErrF (K : PySem.W.Frag) (C fI : Addr) : Prop where
  sa : PySem.W.findIn K (.ref C) "__setattr__" = some (some (.builtin "object.__setattr__"))
  ga : PySem.W.findIn K (.ref C) "__getattribute__" = some (some (.builtin "BaseException.__getattribute__"))
  gg : PySem.W.findIn K (.ref C) "__getattr__" = some none
  nb : PySem.W.findIn K (.ref C) "at" = some none
  a : PySem.W.findIn K (.ref C) "__init__" = some (some (.ref fI))
  t : PySem.W.typeIn K (.ref fI) = some (.type "function")
  k : PySem.W.keepIn K (.ref C) = true
  e : PySem.W.subIn K (.ref C) (.type "BaseException") = some true
  tC : PySem.W.typeIn K (.ref C) = some (.type "type")
  h : PySem.W.hasDictIn K C = true
  i : PySem.W.isClsIn K C = true
  s : PySem.W.subIn K (.ref C) (.ref C) = some true
theorem err_mk {K : PySem.W.Frag} {h : Heap} {mg : Str → Option Value} {cn qn : Str} {C fI : Addr} {st : Stmt} {od an : Option Addr} {sl : Array (Option Value)} {oc dc pm cd ct : Value} {p1 p2 q1 q2 q3 q4 : Pos} {nm q : Str} {S N : Addr} {bs : List Value} {sn : List Str} {sub : List Value} {ab : Bool} {col : Option Bool} {dd : Option Addr} {m0 m1 m2 m3 m5 : Option Value} (X : K.In h) (G : h.Ns mainGlobals mg) (aC : PySem.W.nsIn K mainGlobals cn = some (some (.ref C))) (xL : K.lookup C = some (excClassObj nm q C N bs [.ref S, .type "ValueError", .type "Exception", .type "BaseException", .type "object"] true sn sub ab col dd m0 m1 m2 m3 m5 "ValueError.__new__")) (F : ErrF K C fI)
    (l : K.lookup fI = some ⟨oc, od, .func (PySem.W.fnOf "__init__" qn (defArgs st) (defBody st) (defScope st) .none .none dc pm an cd ct), sl⟩) (c : PySem.W.codeIn K cd qn = true) (e1 : defArgs st = PySem.ErrX.iA p1 p2) (e2 : defBody st = PySem.ErrX.iB q1 q2 q3 q4) (e3 : defScope st = PySem.ErrX.iS) : PySem.ErrX.ErrTxt K mg cn qn C fI := by
  rw [e1, e2, e3] at l
  exact { gC := PySem.W.mg_of X G aC, cls := ⟨nm, q, N, bs, _, sn, sub, ab, col, dd, m0, m1, m2, m3, m5, xL, by show PySem.HandSPX.refsVE [.type "ValueError", .type "Exception", .type "BaseException", .type "object"] = true; decide +kernel⟩, sa := F.sa, ga := F.ga, gg := F.gg, noN := F.nb, iC := F.a, tC := F.t, kC := F.k, exC := F.e, tyC := F.tC, hdC := F.h, te := exm_of F.e F.i F.tC F.s, fn := ⟨oc, od, dc, pm, an, cd, ct, sl, _, _, _, _, _, _, l, c⟩ }
end Lk

set_option Elab.async false
set_option linter.all false
set_option maxRecDepth 100000
set_option maxHeartbeats 8000000
namespace Lk
open PySem L2
/-- what is told of the class Machine -/
structure MacF (K : PySem.W.Frag) (CM fI : Addr) : Prop where
  pg : PySem.W.plainGet K CM Str.empty = true
  hd : PySem.W.hasDictIn K CM = true
  po : PySem.W.plainOver K CM = true
  sa : PySem.W.findIn K (.ref CM) "__setattr__" = some (some (.builtin "object.__setattr__"))
  n1 : PySem.W.findIn K (.ref CM) "commands" = some none
  n2 : PySem.W.findIn K (.ref CM) "states" = some none
  n3 : PySem.W.findIn K (.ref CM) "steps" = some none
  mkI : PySem.W.makesIn K CM = true
  ini : PySem.W.findIn K (.ref CM) "__init__" = some (some (.ref fI))
  fnI : PySem.W.isFn K (.ref fI) = true
  kp : PySem.W.keepIn K (.ref CM) = true
theorem all_mk {l : PySem.W.OpenLaw} {w : World} {K : PySem.W.Frag} {h : Heap} {mg : Str → Option Value} {fa f42 CM fI CE fCE CW fCW : Addr} {f_is_integer f_is_number f_is_below f_is_sequence f_are_below f_is_tuple_below f_is_entry f_is_command f_is_state_tuple f_checked_row f_resting f_effects f_followed f_effect f_kernel f_kernel_of f_kernel_ahead f_climbs f_kernels f_is_division f_row_of_kernel f_row_told f_is_within f_law_draw f_law_any f_law_of f_law_mixed f_law_columns f_law_column f_law_machine f_law_row f_law_rows f_law_led f_law_effect f_law_kernel f_law_kernels f_law_within f_law_refused : Addr} {g_is_integer g_is_number g_is_below g_is_sequence g_are_below g_is_tuple_below g_is_entry g_is_command g_is_state_tuple g_checked_row g_resting g_effects g_followed g_effect g_kernel g_kernel_of g_kernel_ahead g_climbs g_kernels g_is_division g_row_of_kernel g_row_told g_is_within g_law_draw g_law_any g_law_of g_law_mixed g_law_columns g_law_column g_law_machine g_law_row g_law_rows g_law_led g_law_effect g_law_kernel g_law_kernels g_law_within g_law_refused : FuncData}
    {od1 an1 od2 an2 : Option Addr} {sl1 sl2 : Array (Option Value)} {oc1 kV1 dc1 pm1 cd1 ct1 oc2 kV2 dc2 pm2 cd2 ct2 : Value} (X : K.In h) (G : h.Ns mainGlobals mg) (hfa : mg "law" = some (.ref fa))
    (d_is_integer : Df K mg "is_integer" s_is_integer f_is_integer g_is_integer P_is_integer)
    (d_is_number : Df K mg "is_number" s_is_number f_is_number g_is_number P_is_number)
    (d_is_below : Df K mg "is_below" s_is_below f_is_below g_is_below P_is_below)
    (d_is_sequence : Df K mg "is_sequence" s_is_sequence f_is_sequence g_is_sequence P_is_sequence)
    (d_are_below : Df K mg "are_below" s_are_below f_are_below g_are_below P_are_below)
    (d_is_tuple_below : Df K mg "is_tuple_below" s_is_tuple_below f_is_tuple_below g_is_tuple_below P_is_tuple_below)
    (d_is_entry : Df K mg "_is_entry" s_is_entry f_is_entry g_is_entry P_is_entry)
    (d_is_command : Df K mg "is_command" s_is_command f_is_command g_is_command P_is_command)
    (d_is_state_tuple : Df K mg "is_state_tuple" s_is_state_tuple f_is_state_tuple g_is_state_tuple P_is_state_tuple)
    (d_checked_row : Df K mg "checked_row" s_checked_row f_checked_row g_checked_row P_checked_row)
    (d_resting : Df K mg "resting" s_resting f_resting g_resting P_resting)
    (d_effects : Df K mg "effects" s_effects f_effects g_effects P_effects)
    (d_followed : Df K mg "followed" s_followed f_followed g_followed P_followed)
    (d_effect : Df K mg "effect" s_effect f_effect g_effect P_effect)
    (d_kernel : Df K mg "kernel" s_kernel f_kernel g_kernel P_kernel)
    (d_kernel_of : Df K mg "kernel_of" s_kernel_of f_kernel_of g_kernel_of P_kernel_of)
    (d_kernel_ahead : Df K mg "kernel_ahead" s_kernel_ahead f_kernel_ahead g_kernel_ahead P_kernel_ahead)
    (d_climbs : Df K mg "climbs" s_climbs f_climbs g_climbs P_climbs)
    (d_kernels : Df K mg "kernels" s_kernels f_kernels g_kernels P_kernels)
    (d_is_division : Df K mg "is_division" s_is_division f_is_division g_is_division P_is_division)
    (d_row_of_kernel : Df K mg "row_of_kernel" s_row_of_kernel f_row_of_kernel g_row_of_kernel P_row_of_kernel)
    (d_row_told : Df K mg "_row_told" s_row_told f_row_told g_row_told P_row_told)
    (d_is_within : Df K mg "is_within" s_is_within f_is_within g_is_within P_is_within)
    (d_law_draw : Df K mg "_law_draw" s_law_draw f_law_draw g_law_draw P_law_draw)
    (d_law_any : Df K mg "_law_any" s_law_any f_law_any g_law_any P_law_any)
    (d_law_of : Df K mg "_law_of" s_law_of f_law_of g_law_of P_law_of)
    (d_law_mixed : Df K mg "_law_mixed" s_law_mixed f_law_mixed g_law_mixed P_law_mixed)
    (d_law_columns : Df K mg "_law_columns" s_law_columns f_law_columns g_law_columns P_law_columns)
    (d_law_column : Df K mg "_law_column" s_law_column f_law_column g_law_column P_law_column)
    (d_law_machine : Df K mg "_law_machine" s_law_machine f_law_machine g_law_machine P_law_machine)
    (d_law_row : Df K mg "_law_row" s_law_row f_law_row g_law_row P_law_row)
    (d_law_rows : Df K mg "_law_rows" s_law_rows f_law_rows g_law_rows P_law_rows)
    (d_law_led : Df K mg "_law_led" s_law_led f_law_led g_law_led P_law_led)
    (d_law_effect : Df K mg "_law_effect" s_law_effect f_law_effect g_law_effect P_law_effect)
    (d_law_kernel : Df K mg "_law_kernel" s_law_kernel f_law_kernel g_law_kernel P_law_kernel)
    (d_law_kernels : Df K mg "_law_kernels" s_law_kernels f_law_kernels g_law_kernels P_law_kernels)
    (d_law_within : Df K mg "_law_within" s_law_within f_law_within g_law_within P_law_within)
    (d_law_refused : Df K mg "_law_refused" s_law_refused f_law_refused g_law_refused P_law_refused)
    
    (a1 : PySem.W.nsIn K mainGlobals "law" = some (some (.ref f42))) (l1 : K.lookup f42 = some ⟨oc1, od1, .func (PySem.W.fnOf "law" "law" (defArgs s_law) (defBody s_law) (defScope s_law) .none kV1 dc1 pm1 an1 cd1 ct1), sl1⟩) (c1 : PySem.W.codeIn K cd1 "law" = true) (k1 : PySem.W.keepIn K (.ref f42) = true)
    (aM : PySem.W.nsIn K mainGlobals "Machine" = some (some (.ref CM))) (MF : MacF K CM fI)
    (l2 : K.lookup fI = some ⟨oc2, od2, .func (PySem.W.fnOf "__init__" "Machine.__init__" (defArgs s_Machine___init) (defBody s_Machine___init) (defScope s_Machine___init) .none kV2 dc2 pm2 an2 cd2 ct2), sl2⟩) (c2 : PySem.W.codeIn K cd2 "Machine.__init__" = true) (k2 : PySem.W.keepIn K (.ref fI) = true)
    (EM : PySem.ErrX.ErrTxt K mg "InvalidMachine" "InvalidMachine.__init__" CE fCE) (EW : PySem.ErrX.ErrTxt K mg "InvalidRow" "InvalidRow.__init__" CW fCW) 
    (zsorted : mg "sorted" = none) (T : Txt mg) :
    ∃ fd : FuncData, (∀ (s : Shared) (v : Value), BindsTo s fd ⟨[v], []⟩ [("script", v)]) ∧ ∀ base : Heap, K.In base → base.Ns mainGlobals mg → FnG l.prog w K mg base 10 fa fd ["script"] (spLaw K) := by
  have e := hfa.symm.trans (PySem.W.mg_of X G a1)
  cases e
  have TC : TxC K CM := ⟨⟨MF.pg, MF.hd, MF.po, MF.sa⟩, MF.n1, MF.n2, MF.n3⟩
  have gM := PySem.W.mg_of X G aM
  have FI := fun_mk (st := s_Machine___init) l2 c2 k2
  have bI := FI.binds (ps := P_Machine___init) fun _ _ _ _ _ _ us hl => match us, hl with | [_, _, _], _ => rfl
  have MC := McT.mk (⟨MF.mkI, MF.ini, MF.fnI, MF.kp⟩ : Mk K CM fI) gM bI (kbn_rev FI fun _ _ _ _ _ _ us ws h1 h2 => match us, ws, h1, h2 with | [_], [_, _], _, _ => by first | rfl | with_unfolding_all rfl | kernel_rfl)
  have k_kernels : KBn K g_kernels P_kernels 0 ["machine"] uR gR := kbn_rev d_kernels.F fun _ _ _ _ _ _ us ws h1 h2 => match us, ws, h1, h2 with | [], [_], _, _ => by first | rfl | with_unfolding_all rfl | kernel_rfl
  have k_row_of_kernel : KBn K g_row_of_kernel P_row_of_kernel 0 ["value", "machine"] uR gR := kbn_rev d_row_of_kernel.F fun _ _ _ _ _ _ us ws h1 h2 => match us, ws, h1, h2 with | [], [_, _], _, _ => by first | rfl | with_unfolding_all rfl | kernel_rfl
  have k_is_within : KBn K g_is_within P_is_within 0 ["other", "one"] uR gR := kbn_rev d_is_within.F fun _ _ _ _ _ _ us ws h1 h2 => match us, ws, h1, h2 with | [], [_, _], _, _ => by first | rfl | with_unfolding_all rfl | kernel_rfl
  have k_kernel : KBn K g_kernel P_kernel 0 ["row", "machine"] uR gR := kbn_rev d_kernel.F fun _ _ _ _ _ _ us ws h1 h2 => match us, ws, h1, h2 with | [], [_, _], _, _ => by first | rfl | with_unfolding_all rfl | kernel_rfl
  refine ⟨PySem.W.fnOf "law" "law" (defArgs s_law) (defBody s_law) (defScope s_law) .none kV1 dc1 pm1 an1 cd1 ct1, fun s v => .of_eq rfl, fun base _ _ => ?_⟩
  have A0 : Df K mg "law" s_law fa (PySem.W.fnOf "law" "law" (defArgs s_law) (defBody s_law) (defScope s_law) .none kV1 dc1 pm1 an1 cd1 ct1) P_law := ⟨fun_mk (st := s_law) l1 c1 k1, PySem.W.mg_of X G a1, (fun_mk (st := s_law) l1 c1 k1).binds fun _ _ _ _ _ _ us hl => match us, hl with | [_], _ => rfl⟩
  have GI : FnOk l.prog w K mg base (L2.CX l.prog w) 7 fI _ P_Machine___init (spInit CM CE) := ok_init FI d_is_entry d_is_sequence d_are_below d_is_below d_is_number d_is_integer T TC EM
  have G_is_below : FnOk l.prog w K mg base CX0 3 f_is_below g_is_below P_is_below spBelowS := ok_below d_is_below d_is_number d_is_integer T
  have G_cmd : FnOk l.prog w K mg base CX0 4 f_is_command g_is_command P_is_command (spCommand CM) := ok_command d_is_command d_is_below G_is_below TC
  have G_chk : FnOk l.prog w K mg base (L2.CX l.prog w) 6 f_checked_row g_checked_row P_checked_row (spChecked CM CW) := ok_checked d_checked_row d_is_sequence d_is_command G_cmd T EW
  have G_eff : FnOk l.prog w K mg base (L2.CX l.prog w) 7 f_effect g_effect P_effect (spEff CM CW) := ok_eff (fW := fCW) d_effect d_effects d_resting d_followed d_checked_row G_chk T TC
  have G_ker : FnOk l.prog w K mg base (L2.CX l.prog w) 8 f_kernel g_kernel P_kernel (spKernel CM CW) := ok_kernel (fW := fCW) d_kernel d_kernel_of d_effect G_eff T
  have G_are : FnOk l.prog w K mg base CX0 4 f_are_below g_are_below P_are_below spAre := ok_are d_are_below d_is_below d_is_number d_is_integer T
  have G_tb : FnOk l.prog w K mg base CX0 5 f_is_tuple_below g_is_tuple_below P_is_tuple_below spTB := ok_tb d_is_tuple_below d_are_below G_are T
  have G_st : FnOk l.prog w K mg base CX0 6 f_is_state_tuple g_is_state_tuple P_is_state_tuple (spST CM) := ok_st d_is_state_tuple d_is_tuple_below G_tb T TC
  have G_kof : FnOk l.prog w K mg base CX0 1 f_kernel_of g_kernel_of P_kernel_of (spKOf (SqT K)) := ok_kof d_kernel_of T
  have G_div : FnOk l.prog w K mg base CX0 7 f_is_division g_is_division P_is_division (spDiv CM) := ok_div d_is_division d_is_state_tuple G_st d_kernel_of G_kof
  have G_ah : FnOk l.prog w K mg base CX0 2 f_kernel_ahead g_kernel_ahead P_kernel_ahead spAhead := ok_ahead d_kernel_ahead d_kernel_of T
  have G_cl : FnOk l.prog w K mg base CX0 3 f_climbs g_climbs P_climbs (spClimbs CM) := ok_climbs d_climbs d_effects d_resting d_kernel_ahead G_ah T TC
  have G_ks : FnOk l.prog w K mg base CX0 4 f_kernels g_kernels P_kernels (spKernels CM) := ok_kers d_kernels d_climbs G_cl T zsorted
  have G_told : FnOk l.prog w K mg base CX0 1 f_row_told g_row_told P_row_told spTold := ok_told d_row_told T
  have G_row : FnOk l.prog w K mg base CX0 8 f_row_of_kernel g_row_of_kernel P_row_of_kernel (spRowOf CM) := ok_rowOf d_row_of_kernel d_effects d_resting d_kernel_ahead d_is_division d_row_told G_ah G_div G_told T TC
  have G_ref : FnOk l.prog w K mg base CX0 9 f_law_refused g_law_refused P_law_refused (spLRefused CM) := ok_lrefused d_law_refused d_kernel G_ker EW
  have GM : FnOk l.prog w K mg base CX0 4 f_law_machine g_law_machine P_law_machine spMachine := ok_machine d_law_machine d_law_any d_law_of d_law_mixed d_law_columns d_law_column T
  exact ok_law A0 d_law_draw d_law_any d_law_of d_law_machine d_law_row d_law_rows d_law_led d_law_effect d_law_kernel d_law_kernels d_law_within d_law_refused d_kernels d_row_of_kernel d_is_within d_kernel k_kernels k_row_of_kernel k_is_within k_kernel GM G_ks G_row G_ker G_ref MC GI T TC zsorted
theorem walk {l : PySem.W.OpenLaw} {q : Program} {loose : List Str} {XP : (Str → Option Value) → Heap → Prop} {YP : World → Heap → Prop} {d : DefRec} {K : Params → PySem.W.Frag} (hn : l.most = some 63) (hdf : d.params.defaults = []) (hY : ∀ (w : World) (h : Heap), YP w h → (K w.params).In h)
    (F : ∀ (w : World) (mg : Str → Option Value) (fa : Addr) (h : Heap), (K w.params).In h → h.Ns mainGlobals mg → mg d.name = some (.ref fa) → ∃ fd : FuncData, (∀ (s : Shared) (u : Value), BindsTo s fd ⟨[u], []⟩ [("script", u)]) ∧ ∀ base : Heap, (K w.params).In base → base.Ns mainGlobals mg → FnG l.prog w (K w.params) mg base 10 fa fd ["script"] (spLaw (K w.params))) :
    PySem.W.WalkO q loose XP YP l.row.toRowW d [] (fun f vs => PySem.call f vs) :=
  walk_G (n := 63) (k := 10) (x := "script") (sp := fun w => spLaw (K w.params)) hn (by decide) hdf ⟨rfl, by decide, by decide⟩ hY F fun _ _ a ns hl hS => ⟨a, ns, rfl, hS, hl, fun _ => rfl⟩
end Lk

set_option Elab.async false
open PySem PySem.W PyProof.Rows in
set_option maxRecDepth 100000 in
set_option maxHeartbeats 0 in
theorem PySem.Challenge.cw_lateslips_k02_whole_kernels_of_rows_holds : PySem.Challenge.rw_lateslips_k02_whole_kernels_of_rows.Holds := by
  w_on; o_law; k_head; (case hw => w_witness2)
  k_fill
  refine Lk.walk (l := PySem.Challenge.rw_lateslips_k02_whole_kernels_of_rows) rfl rfl (fun w h Y => PySem.W.kIn_of Y) ?F
  case F =>
    intro w mg fa h KX G hmg
    refine' Lk.all_mk KX G hmg (Lk.mk_is_integer KX G ?a_is_integer ?l_is_integer ?c_is_integer ?k_is_integer) (Lk.mk_is_number KX G ?a_is_number ?l_is_number ?c_is_number ?k_is_number) (Lk.mk_is_below KX G ?a_is_below ?l_is_below ?c_is_below ?k_is_below) (Lk.mk_is_sequence KX G ?a_is_sequence ?l_is_sequence ?c_is_sequence ?k_is_sequence) (Lk.mk_are_below KX G ?a_are_below ?l_are_below ?c_are_below ?k_are_below) (Lk.mk_is_tuple_below KX G ?a_is_tuple_below ?l_is_tuple_below ?c_is_tuple_below ?k_is_tuple_below) (Lk.mk_is_entry KX G ?a_is_entry ?l_is_entry ?c_is_entry ?k_is_entry) (Lk.mk_is_command KX G ?a_is_command ?l_is_command ?c_is_command ?k_is_command) (Lk.mk_is_state_tuple KX G ?a_is_state_tuple ?l_is_state_tuple ?c_is_state_tuple ?k_is_state_tuple) (Lk.mk_checked_row KX G ?a_checked_row ?l_checked_row ?c_checked_row ?k_checked_row) (Lk.mk_resting KX G ?a_resting ?l_resting ?c_resting ?k_resting) (Lk.mk_effects KX G ?a_effects ?l_effects ?c_effects ?k_effects) (Lk.mk_followed KX G ?a_followed ?l_followed ?c_followed ?k_followed) (Lk.mk_effect KX G ?a_effect ?l_effect ?c_effect ?k_effect) (Lk.mk_kernel KX G ?a_kernel ?l_kernel ?c_kernel ?k_kernel) (Lk.mk_kernel_of KX G ?a_kernel_of ?l_kernel_of ?c_kernel_of ?k_kernel_of) (Lk.mk_kernel_ahead KX G ?a_kernel_ahead ?l_kernel_ahead ?c_kernel_ahead ?k_kernel_ahead) (Lk.mk_climbs KX G ?a_climbs ?l_climbs ?c_climbs ?k_climbs) (Lk.mk_kernels KX G ?a_kernels ?l_kernels ?c_kernels ?k_kernels) (Lk.mk_is_division KX G ?a_is_division ?l_is_division ?c_is_division ?k_is_division) (Lk.mk_row_of_kernel KX G ?a_row_of_kernel ?l_row_of_kernel ?c_row_of_kernel ?k_row_of_kernel) (Lk.mk_row_told KX G ?a_row_told ?l_row_told ?c_row_told ?k_row_told) (Lk.mk_is_within KX G ?a_is_within ?l_is_within ?c_is_within ?k_is_within) (Lk.mk_law_draw KX G ?a_law_draw ?l_law_draw ?c_law_draw ?k_law_draw) (Lk.mk_law_any KX G ?a_law_any ?l_law_any ?c_law_any ?k_law_any) (Lk.mk_law_of KX G ?a_law_of ?l_law_of ?c_law_of ?k_law_of) (Lk.mk_law_mixed KX G ?a_law_mixed ?l_law_mixed ?c_law_mixed ?k_law_mixed) (Lk.mk_law_columns KX G ?a_law_columns ?l_law_columns ?c_law_columns ?k_law_columns) (Lk.mk_law_column KX G ?a_law_column ?l_law_column ?c_law_column ?k_law_column) (Lk.mk_law_machine KX G ?a_law_machine ?l_law_machine ?c_law_machine ?k_law_machine) (Lk.mk_law_row KX G ?a_law_row ?l_law_row ?c_law_row ?k_law_row) (Lk.mk_law_rows KX G ?a_law_rows ?l_law_rows ?c_law_rows ?k_law_rows) (Lk.mk_law_led KX G ?a_law_led ?l_law_led ?c_law_led ?k_law_led) (Lk.mk_law_effect KX G ?a_law_effect ?l_law_effect ?c_law_effect ?k_law_effect) (Lk.mk_law_kernel KX G ?a_law_kernel ?l_law_kernel ?c_law_kernel ?k_law_kernel) (Lk.mk_law_kernels KX G ?a_law_kernels ?l_law_kernels ?c_law_kernels ?k_law_kernels) (Lk.mk_law_within KX G ?a_law_within ?l_law_within ?c_law_within ?k_law_within) (Lk.mk_law_refused KX G ?a_law_refused ?l_law_refused ?c_law_refused ?k_law_refused)  ?a1 ?l1 ?c1 ?k1 ?aM ⟨?m_pg, ?m_hd, ?m_po, ?m_sa, ?m_n1, ?m_n2, ?m_n3, ?m_mkI, ?m_ini, ?m_fnI, ?m_kp⟩ ?l2 ?c2 ?k2 (Lk.err_mk (st := L2.inClass (Lk.top 2) 0) KX G ?e1_aC ?e1_xL ⟨?e1_sa, ?e1_ga, ?e1_gg, ?e1_nb, ?e1_a, ?e1_t, ?e1_k, ?e1_e, ?e1_tC, ?e1_h, ?e1_i, ?e1_s⟩ ?e1_l ?e1_c rfl rfl rfl) (Lk.err_mk (st := L2.inClass (Lk.top 3) 0) KX G ?e2_aC ?e2_xL ⟨?e2_sa, ?e2_ga, ?e2_gg, ?e2_nb, ?e2_a, ?e2_t, ?e2_k, ?e2_e, ?e2_tC, ?e2_h, ?e2_i, ?e2_s⟩ ?e2_l ?e2_c rfl rfl rfl)  (PySem.W.mg_none_of KX G ?z_sorted) ⟨PySem.W.mg_none_of KX G ?zt_len, PySem.W.mg_none_of KX G ?zt_abs, PySem.W.mg_none_of KX G ?zt_int, PySem.W.mg_none_of KX G ?zt_max, PySem.W.mg_none_of KX G ?zt_min, PySem.W.mg_none_of KX G ?zt_range, PySem.W.mg_none_of KX G ?zt_list, PySem.W.mg_none_of KX G ?zt_tuple, PySem.W.mg_none_of KX G ?zt_enumerate, PySem.W.mg_none_of KX G ?zt_zip, PySem.W.mg_none_of KX G ?zt_isinstance, PySem.W.mg_none_of KX G ?zt_all, PySem.W.mg_none_of KX G ?zt_bool, PySem.W.mg_none_of KX G ?zt_repr⟩
    (case a_is_integer => k_is)
    (case l_is_integer => k_is)
    (case c_is_integer => k_is)
    (case k_is_integer => k_is)
    (case a_is_number => k_is)
    (case l_is_number => k_is)
    (case c_is_number => k_is)
    (case k_is_number => k_is)
    (case a_is_below => k_is)
    (case l_is_below => k_is)
    (case c_is_below => k_is)
    (case k_is_below => k_is)
    (case a_is_sequence => k_is)
    (case l_is_sequence => k_is)
    (case c_is_sequence => k_is)
    (case k_is_sequence => k_is)
    (case a_are_below => k_is)
    (case l_are_below => k_is)
    (case c_are_below => k_is)
    (case k_are_below => k_is)
    (case a_is_tuple_below => k_is)
    (case l_is_tuple_below => k_is)
    (case c_is_tuple_below => k_is)
    (case k_is_tuple_below => k_is)
    (case a_is_entry => k_is)
    (case l_is_entry => k_is)
    (case c_is_entry => k_is)
    (case k_is_entry => k_is)
    (case a_is_command => k_is)
    (case l_is_command => k_is)
    (case c_is_command => k_is)
    (case k_is_command => k_is)
    (case a_is_state_tuple => k_is)
    (case l_is_state_tuple => k_is)
    (case c_is_state_tuple => k_is)
    (case k_is_state_tuple => k_is)
    (case a_checked_row => k_is)
    (case l_checked_row => k_is)
    (case c_checked_row => k_is)
    (case k_checked_row => k_is)
    (case a_resting => k_is)
    (case l_resting => k_is)
    (case c_resting => k_is)
    (case k_resting => k_is)
    (case a_effects => k_is)
    (case l_effects => k_is)
    (case c_effects => k_is)
    (case k_effects => k_is)
    (case a_followed => k_is)
    (case l_followed => k_is)
    (case c_followed => k_is)
    (case k_followed => k_is)
    (case a_effect => k_is)
    (case l_effect => k_is)
    (case c_effect => k_is)
    (case k_effect => k_is)
    (case a_kernel => k_is)
    (case l_kernel => k_is)
    (case c_kernel => k_is)
    (case k_kernel => k_is)
    (case a_kernel_of => k_is)
    (case l_kernel_of => k_is)
    (case c_kernel_of => k_is)
    (case k_kernel_of => k_is)
    (case a_kernel_ahead => k_is)
    (case l_kernel_ahead => k_is)
    (case c_kernel_ahead => k_is)
    (case k_kernel_ahead => k_is)
    (case a_climbs => k_is)
    (case l_climbs => k_is)
    (case c_climbs => k_is)
    (case k_climbs => k_is)
    (case a_kernels => k_is)
    (case l_kernels => k_is)
    (case c_kernels => k_is)
    (case k_kernels => k_is)
    (case a_is_division => k_is)
    (case l_is_division => k_is)
    (case c_is_division => k_is)
    (case k_is_division => k_is)
    (case a_row_of_kernel => k_is)
    (case l_row_of_kernel => k_is)
    (case c_row_of_kernel => k_is)
    (case k_row_of_kernel => k_is)
    (case a_row_told => k_is)
    (case l_row_told => k_is)
    (case c_row_told => k_is)
    (case k_row_told => k_is)
    (case a_is_within => k_is)
    (case l_is_within => k_is)
    (case c_is_within => k_is)
    (case k_is_within => k_is)
    (case a_law_draw => k_is)
    (case l_law_draw => k_is)
    (case c_law_draw => k_is)
    (case k_law_draw => k_is)
    (case a_law_any => k_is)
    (case l_law_any => k_is)
    (case c_law_any => k_is)
    (case k_law_any => k_is)
    (case a_law_of => k_is)
    (case l_law_of => k_is)
    (case c_law_of => k_is)
    (case k_law_of => k_is)
    (case a_law_mixed => k_is)
    (case l_law_mixed => k_is)
    (case c_law_mixed => k_is)
    (case k_law_mixed => k_is)
    (case a_law_columns => k_is)
    (case l_law_columns => k_is)
    (case c_law_columns => k_is)
    (case k_law_columns => k_is)
    (case a_law_column => k_is)
    (case l_law_column => k_is)
    (case c_law_column => k_is)
    (case k_law_column => k_is)
    (case a_law_machine => k_is)
    (case l_law_machine => k_is)
    (case c_law_machine => k_is)
    (case k_law_machine => k_is)
    (case a_law_row => k_is)
    (case l_law_row => k_is)
    (case c_law_row => k_is)
    (case k_law_row => k_is)
    (case a_law_rows => k_is)
    (case l_law_rows => k_is)
    (case c_law_rows => k_is)
    (case k_law_rows => k_is)
    (case a_law_led => k_is)
    (case l_law_led => k_is)
    (case c_law_led => k_is)
    (case k_law_led => k_is)
    (case a_law_effect => k_is)
    (case l_law_effect => k_is)
    (case c_law_effect => k_is)
    (case k_law_effect => k_is)
    (case a_law_kernel => k_is)
    (case l_law_kernel => k_is)
    (case c_law_kernel => k_is)
    (case k_law_kernel => k_is)
    (case a_law_kernels => k_is)
    (case l_law_kernels => k_is)
    (case c_law_kernels => k_is)
    (case k_law_kernels => k_is)
    (case a_law_within => k_is)
    (case l_law_within => k_is)
    (case c_law_within => k_is)
    (case k_law_within => k_is)
    (case a_law_refused => k_is)
    (case l_law_refused => k_is)
    (case c_law_refused => k_is)
    (case k_law_refused => k_is)
    (case a1 => k_is)
    (case l1 => k_is)
    (case c1 => k_is)
    (case k1 => k_is)
    (case aM => k_is)
    (case m_pg => first | k_is | rfl | decide +kernel)
    (case m_hd => first | k_is | rfl | decide +kernel)
    (case m_po => first | k_is | rfl | decide +kernel)
    (case m_sa => first | k_is | rfl | decide +kernel)
    (case m_n1 => first | k_is | rfl | decide +kernel)
    (case m_n2 => first | k_is | rfl | decide +kernel)
    (case m_n3 => first | k_is | rfl | decide +kernel)
    (case m_mkI => first | k_is | rfl | decide +kernel)
    (case m_ini => first | k_is | rfl | decide +kernel)
    (case m_fnI => first | k_is | rfl | decide +kernel)
    (case m_kp => first | k_is | rfl | decide +kernel)
    (case l2 => k_is)
    (case c2 => k_is)
    (case k2 => k_is)
    (case e1_aC => k_is)
    (case e1_xL => k_is)
    (case e1_sa => first | k_is | rfl)
    (case e1_ga => first | k_is | rfl)
    (case e1_gg => first | k_is | rfl)
    (case e1_nb => first | k_is | rfl)
    (case e1_a => first | k_is | rfl)
    (case e1_t => first | k_is | rfl)
    (case e1_k => first | k_is | rfl)
    (case e1_e => first | k_is | rfl)
    (case e1_tC => first | k_is | rfl)
    (case e1_h => first | k_is | rfl)
    (case e1_i => first | k_is | rfl)
    (case e1_s => first | k_is | rfl)
    (case e1_l => k_is)
    (case e1_c => k_is)
    (case e2_aC => k_is)
    (case e2_xL => k_is)
    (case e2_sa => first | k_is | rfl)
    (case e2_ga => first | k_is | rfl)
    (case e2_gg => first | k_is | rfl)
    (case e2_nb => first | k_is | rfl)
    (case e2_a => first | k_is | rfl)
    (case e2_t => first | k_is | rfl)
    (case e2_k => first | k_is | rfl)
    (case e2_e => first | k_is | rfl)
    (case e2_tC => first | k_is | rfl)
    (case e2_h => first | k_is | rfl)
    (case e2_i => first | k_is | rfl)
    (case e2_s => first | k_is | rfl)
    (case e2_l => k_is)
    (case e2_c => k_is)
    (case z_sorted => k_is)
    (case zt_len => k_is)
    (case zt_abs => k_is)
    (case zt_int => k_is)
    (case zt_max => k_is)
    (case zt_min => k_is)
    (case zt_range => k_is)
    (case zt_list => k_is)
    (case zt_tuple => k_is)
    (case zt_enumerate => k_is)
    (case zt_zip => k_is)
    (case zt_isinstance => k_is)
    (case zt_all => k_is)
    (case zt_bool => k_is)
    (case zt_repr => k_is)
