import PyProof.Rows.All
import Wide.All
import OpenK.AllK
import Wide.FinOn
import HandS.ForMost
import HandS.ForExc
import HandS.Wide
import HandS.Style
import HandS.Conv
import HandS.IsInst
import PySem.Challenge.RW_lateslips_k01_machines_and_effects
import KE.GoesMore
import PyProof.Draws
import HandS.WideBits
import PyProof.InstEq
import HandS.OwnEq
import HandS.Zip
import HandS.MakeKwOnly
import PyProof.ReprRoads
import PyProof.ReprLen
import HandS.RaiseMore
import HandS.TupAny
set_option Elab.async false
set_option maxRecDepth 100000
namespace Lk
open PySem L2
def top (i : Nat) : Stmt := PySem.Challenge.pw_lateslips_k01_machines_and_effects.main.body.getD i (.Pass ⟨0, 0, 0, 0⟩)

/-! ### heaps: all but the deal stands -/
/-- what H tells stands in H', the two objects of the deal aside -/
def SB (d l : Addr) (H H' : Hp) : Prop := ∀ a o, H a = some o → a ≠ d → a ≠ l → H' a = some o
theorem SB.refl (d l : Addr) (H : Hp) : SB d l H H := fun _ _ h _ _ => h
theorem SB.trans {d l : Addr} {H H1 H2 : Hp} (x : SB d l H H1) (y : SB d l H1 H2) : SB d l H H2 := fun a o h n m => y a o (x a o h n m) n m
theorem SB.new {d l p : Addr} {H : Hp} {o : HO} (h : H p = none) : SB d l H (upd H p o) := fun a u e _ _ => by
  rw [upd_ne (ne_of_none e h)]
  exact e
theorem SB.d {d l : Addr} {H : Hp} {o : HO} : SB d l H (upd H d o) := fun a u e n _ => by
  rw [upd_ne n]
  exact e
theorem SB.l {d l : Addr} {H : Hp} {o : HO} : SB d l H (upd H l o) := fun a u e _ n => by
  rw [upd_ne n]
  exact e
/-- the deal: at d the pair of the great cells left, at l, and the blend -/
structure DealIs (H : Hp) (d l : Addr) (bs : List Int) (b : Int) : Prop where
  hd : H d = some (.lst [.ref l, .int b])
  hl : H l = some (.lst (bs.map V.int))
  pos : ∀ x ∈ bs, 0 ≤ x
  len : bs.length ≤ 48
  b0 : 0 ≤ b
  b1 : b < 2147483647
def DealAt (H : Hp) (d l : Addr) : Prop := ∃ bs b, DealIs H d l bs b
theorem DealIs.ne {H : Hp} {d l : Addr} {bs : List Int} {b : Int} (x : DealIs H d l bs b) : d ≠ l := fun e => by
  have h1 := x.hd
  have h2 := x.hl
  rw [e, h2] at h1
  have h3 := Option.some.inj h1
  injection h3 with h4
  cases bs with
  | nil => cases h4
  | cons y ys =>
    injection h4 with h5
    cases h5
theorem DealIs.new {H : Hp} {d l p : Addr} {o : HO} {bs : List Int} {b : Int} (x : DealIs H d l bs b) (h : H p = none) : DealIs (upd H p o) d l bs b :=
  ⟨by rw [upd_ne (ne_of_none x.hd h)]; exact x.hd, by rw [upd_ne (ne_of_none x.hl h)]; exact x.hl, x.pos, x.len, x.b0, x.b1⟩
theorem DealAt.new {H : Hp} {d l p : Addr} {o : HO} (x : DealAt H d l) (h : H p = none) : DealAt (upd H p o) d l := by
  obtain ⟨bs, b, y⟩ := x
  exact ⟨bs, b, y.new h⟩

/-! ### data: ints in a list -/
theorem dpAll_ints {K : PySem.W.Frag} {H : Hp} : ∀ bs : List Int, DpAll K H (bs.map V.int) (bs.map PyData.int)
  | [] => .nil
  | _ :: bs => .cons (.int _) (dpAll_ints bs)
theorem canLay_ints : ∀ bs : List Int, PyData.canLayAll0 (bs.map PyData.int) = true
  | [] => rfl
  | _ :: bs => by
    show (true && PyData.canLayAll0 (bs.map PyData.int)) = true
    rw [canLay_ints bs] <;> rfl
theorem depth_ints : ∀ bs : List Int, PyData.depthAll (bs.map PyData.int) ≤ 1
  | [] => by decide
  | z :: bs => by
    have h := depth_ints bs
    show max (PyData.depth (.int z)) (PyData.depthAll (bs.map PyData.int)) ≤ 1
    have e : PyData.depth (.int z) = 0 := rfl
    omega
theorem shaped_ints (bs : List Int) : SeqAt.shaped (.list (bs.map PyData.int)) = true := by
  have h1 : PyData.canLay0 (.list (bs.map PyData.int)) = true := canLay_ints bs
  have h2 : PyData.depth (.list (bs.map PyData.int)) = PyData.depthAll (bs.map PyData.int) + 1 := rfl
  have h3 := depth_ints bs
  unfold SeqAt.shaped
  rw [h1, Bool.true_and]
  exact decide_eq_true (by omega)
theorem eqv_nil (ds : List PyData) : PyData.eqv (.list ds) (.list []) = ds.isEmpty := by
  cases ds <;> rfl

/-! ### the facts of the top that the defs lean on -/
/-- a def of the text, at f -/
structure Df (K : PySem.W.Frag) (mg : Str → Option Value) (x : Str) (st : Stmt) (f : Addr) (fd : FuncData) (ps : List Str) : Prop where
  F : Fun K x x st f fd
  g : mg x = some (.ref f)
  b : Binds K fd ps []
structure Txt (mg : Str → Option Value) : Prop where
  len : mg "len" = none
  abs : mg "abs" = none
  int : mg "int" = none
  max : mg "max" = none
  min : mg "min" = none
  range : mg "range" = none
  list : mg "list" = none
  tuple : mg "tuple" = none
  enumerate : mg "enumerate" = none
  zip : mg "zip" = none
  isinstance : mg "isinstance" = none
  all : mg "all" = none
  bool : mg "bool" = none
  repr : mg "repr" = none
end Lk

set_option Elab.async false
set_option maxRecDepth 100000
set_option maxHeartbeats 1000000
namespace Lk
open PySem L2
abbrev s_law_any : Stmt := top 26
abbrev N_law_any : List Str := ["_law_deal", "_law_bound", "_law_rest"]
abbrev P_law_any : List Str := ["_law_deal", "_law_bound"]
theorem sc_law_any : FnScope N_law_any P_law_any (defScope s_law_any) := ⟨rfl, rfl, rfl, by decide +kernel, rfl, by decide +kernel, by decide +kernel⟩
/-- a number below n is drawn, the deal goes on -/
def spAny : Sp := fun vs H Q _ => ∃ (d l : Addr) (n : Int), vs = [.ref d, .int n] ∧ 0 < n ∧ n < 1073741824 ∧ DealAt H d l ∧
  ∀ (H' : Hp) (r : Int), DealAt H' d l → SB d l H H' → 0 ≤ r → r < n → Q (.int r) H'
section
variable {P : Program} {w : World} {K : PySem.W.Frag} {mg : Str → Option Value} {base : Heap}
theorem last_get {bs : List Int} (h : bs ≠ []) : (bs.map V.int)[(bs.map V.int).length - 1]? = some (V.int (bs.getLast h)) := by
  rw [List.length_map, List.getElem?_map]
  have e : bs[bs.length - 1]? = some (bs.getLast h) := by
    rw [List.getLast_eq_getElem]
    exact List.getElem?_eq_getElem _
  rw [e] <;> rfl
theorem atI_last {bs : List Int} (h : bs ≠ []) : atI (bs.map V.int) (-1) = some (V.int (bs.getLast h)) := by
  have hl : 0 < bs.length := List.length_pos_iff.mpr h
  have e : ixN (bs.map V.int).length (-1) = some ((bs.map V.int).length - 1) := by
    unfold ixN
    rw [if_neg (by decide), if_pos (by rw [List.length_map]; omega)]
    have q : ((-1 : Int) + ((bs.map V.int).length : Int)).toNat = (bs.map V.int).length - 1 := by
      rw [List.length_map]
      omega
    rw [q]
  unfold atI
  rw [e]
  exact last_get h
theorem ok_any {f : Addr} {fd : FuncData} (A0 : Df K mg "_law_any" s_law_any f fd P_law_any) (T : Txt mg) : FnOk P w K mg base CX0 1 f fd P_law_any spAny := by
  refine A0.F.ok sc_law_any (fun vs H Q E h => ?_) (fun cdv A outer s H vs Q E hr h => ?_)
  · obtain ⟨d, l, n, rfl, _⟩ := h
    rfl
  · obtain ⟨d, l, n, rfl, n0, n1, D, k⟩ := h
    have hu : A.units + 3 + 64 < cLine := by have := hr.un; simp only [Around.deeper] at this; omega
    refine ⟨_, (pss_cons (ps_while PassesOwn.never (PW.pt (pw_and (pt_cmpR (op_neD hu) (pe_ix ix_list (pv 0) pe_int (fun _ _ => rfl)) (pe_lst pa_nil) (nomark _)) (pw_and1 (pt_cmpR op_eq (pe_ix ix_list (pe_ix ix_list (pv 0) pe_int (fun _ _ => rfl)) (pe_un un_neg pe_int) (fun _ _ => rfl)) pe_int (nomark _)))))
      (pss_one (ps_expr (pe_bm0 PySem.F.plainAttrs_list PySem.F.slot_list_pop PySem.F.type_list_pop mt_pop (pe_ix ix_list (pv 0) pe_int (fun _ _ => rfl))))))
    (pss_cons (ps_if (pt_cmpR (op_neD hu) (pe_ix ix_list (pv 0) pe_int (fun _ _ => rfl)) (pe_lst pa_nil) (nomark _)) (pss_cons (ps_set (i := 2) sc_law_any.nd rfl (Or.inl rfl) (pe_callTy call_int1 (by rfl) T.int (by decide +kernel) (pa_cons (pe_bm0 PySem.F.plainAttrs_list PySem.F.slot_list_pop PySem.F.type_list_pop mt_pop (pe_ix ix_list (pv 0) pe_int (fun _ _ => rfl))) pa_nil)))
      (pss_cons (ps_expr (pe_bm PySem.F.plainAttrs_list PySem.F.slot_list_append PySem.F.type_list_append mt_append (pe_ix ix_list (pv 0) pe_int (fun _ _ => rfl)) (pa_cons (pe_op op_fdivW (pv 2) (pv 1)) pa_nil)))
      (pss_one (ps_ret (pe_op op_mod (pv 2) (pv 1)))))) pss_nil)
    (pss_cons (ps_asg (pe_op op_mod (pe_callTy call_int1 (by rfl) T.int (by decide +kernel) (pa_cons (pe_op op_add (pe_op op_mul (pe_ix ix_list (pv 0) pe_int (fun _ _ => rfl)) pe_int) pe_int) pa_nil)) pe_int) (pg_sub (pv 0) pe_int set_list))
    (pss_one (ps_ret (pe_op op_mod (pe_callTy call_int1 (by rfl) T.int (by decide +kernel) (pa_cons (pe_op op_fdiv (pe_ix ix_list (pv 0) pe_int (fun _ _ => rfl)) pe_int) pa_nil)) (pv 1))))))), ?_⟩
    obtain ⟨bs0, b0, D0⟩ := D
    refine ⟨fun m σ H1 => σ = [some (.ref d), some (.int n), none] ∧ SB d l H H1 ∧ ∃ bs b, DealIs H1 d l bs b ∧ m = bs.length, ⟨_, rfl, SB.refl _ _ _, bs0, b0, D0, rfl⟩, ?_⟩
    rintro m σ H1 ⟨rfl, S1, bs, b, D1, rfl⟩
    refine ⟨_, rfl, d, _, 0, _, rfl, rfl, SqL.of D1.hd, rfl, Nat.zero_le _, fun p hp => ⟨_, _, Dp.lst (SqL.of (D1.new hp).hl) (dpAll_ints _), Dp.lst (SqL.of upd_same) .nil, shaped_ints _, by decide +kernel, _, rfl, ?_⟩⟩
    have D2 := D1.new (o := HO.lst []) hp
    have S2 : SB d l H _ := S1.trans (SB.new (o := HO.lst []) hp)
    rw [eqv_nil]
    -- behind the loop, with a deal that has great cells left or none
    have after : ∀ (H2 : Hp) (bs : List Int) (b : Int), DealIs H2 d l bs b → SB d l H H2 → (bs = [] ∨ ∃ h : bs ≠ [], bs.getLast h ≠ 0) →
        (tSeq (tIfS (tTest (tOp (rNeD K) (tOp (rIxL K) (tVar 0) (tC (.int 0))) (tLst tNil))) (tSeq (tAsg (tCB (fun xs H Q => (∃ i, xs = [.int i] ∧ Q (.int i) H) ∨ ∃ k, xs = [.bl k] ∧ Q (.int (if k then 1 else 0)) H) (tCons (tBM0 K "list" rPop (tOp (rIxL K) (tVar 0) (tC (.int 0)))) tNil)) (gName 2))
          (tSeq (tDrop (tBM K "list" rAppend (tOp (rIxL K) (tVar 0) (tC (.int 0))) (tCons (tOp (rI CDivW fun i j => .int (i / j)) (tVar 2) (tVar 1)) tNil))) (tRet (tOp (rI (fun _ j => 0 < j) fun i j => .int (i % j)) (tVar 2) (tVar 1))))) tNext)
          (tSeq (tAsg (tOp (rI (fun _ j => 0 < j) fun i j => .int (i % j)) (tCB (fun xs H Q => (∃ i, xs = [.int i] ∧ Q (.int i) H) ∨ ∃ k, xs = [.bl k] ∧ Q (.int (if k then 1 else 0)) H) (tCons (tOp (rI0 fun i j => .int (i + j)) (tOp (rI CMul fun i j => .int (i * j)) (tOp (rIxL K) (tVar 0) (tC (.int 1))) (tC (.int 40693))) (tC (.int 71))) tNil)) (tC (.int 2147483647))) (gSub (tVar 0) (tC (.int 1)) rSetL))
            (tRet (tOp (rI (fun _ j => 0 < j) fun i j => .int (i % j)) (tCB (fun xs H Q => (∃ i, xs = [.int i] ∧ Q (.int i) H) ∨ ∃ k, xs = [.bl k] ∧ Q (.int (if k then 1 else 0)) H) (tCons (tOp (rI CDiv fun i j => .int (i / j)) (tOp (rIxL K) (tVar 0) (tC (.int 1))) (tC (.int 64))) tNil)) (tVar 1)))))
          { nx := fun _ H' => Q .non H', rt := Q } [some (.ref d), some (.int n), none] H2 := by
      intro H2 bs b D1 S1 hb
      refine ⟨_, rfl, d, _, 0, _, rfl, rfl, SqL.of D1.hd, rfl, Nat.zero_le _, fun p hp => ⟨_, _, Dp.lst (SqL.of (D1.new hp).hl) (dpAll_ints _), Dp.lst (SqL.of upd_same) .nil, shaped_ints _, by decide +kernel, _, rfl, ?_⟩⟩
      have D2 := D1.new (o := HO.lst []) hp
      have S2 : SB d l H _ := S1.trans (SB.new (o := HO.lst []) hp)
      rw [eqv_nil]
      cases bs with
      | nil =>
        refine iteF ?_
        have m0 : (0 : Int) ≤ (b * 40693 + 71) % 2147483647 := Int.emod_nonneg _ (by decide)
        have m1 : (b * 40693 + 71) % 2147483647 < 2147483647 := Int.emod_lt_of_pos _ (by decide)
        refine ⟨_, rfl, d, _, 1, _, rfl, rfl, SqL.of D2.hd, rfl, _, _, rfl, rfl, .inr ⟨by decide, by decide⟩, _, _, rfl, rfl, .inl ⟨_, rfl, _, _, rfl, rfl, (by show (0 : Int) < 2147483647; decide), ?_⟩⟩
        refine ⟨_, rfl, d, _, 1, 1, rfl, rfl, D2.hd, rfl, ?_⟩
        refine ⟨_, rfl, d, _, 1, _, rfl, rfl, SqL.of upd_same, rfl, _, _, rfl, rfl, ⟨by decide, by decide⟩, .inl ⟨_, rfl, _, rfl, _, _, rfl, rfl, n0, ?_⟩⟩
        refine k _ _ ⟨[], _, ⟨upd_same, ?_, D2.pos, D2.len, m0, m1⟩⟩ (S2.trans SB.d) (Int.emod_nonneg _ (by omega)) (Int.emod_lt_of_pos _ n0)
        rw [upd_ne D2.ne.symm]
        exact D2.hl
      | cons x xs =>
        refine iteT ?_
        have h0 : (0 : Int) ≤ (x :: xs).getLast (List.cons_ne_nil x xs) := D2.pos _ (List.getLast_mem _)
        refine ⟨_, rfl, d, _, 0, _, rfl, rfl, SqL.of D2.hd, rfl, .inl ⟨rfl, _, SqL.of D2.hl⟩, l, _, _, rfl, rfl, D2.hl, last_get (List.cons_ne_nil x xs), .inl ⟨_, rfl, ?_⟩⟩
        have hd3 : upd (upd H2 p (HO.lst [])) l (HO.lst ((x :: xs).map V.int).dropLast) d = some (.lst [.ref l, .int b]) := by
          rw [upd_ne D2.ne]
          exact D2.hd
        refine ⟨_, rfl, d, _, 0, _, rfl, rfl, SqL.of hd3, rfl, .inl ⟨rfl, _, SqL.of upd_same⟩, _, rfl, _, rfl, _, _, rfl, rfl, wide_div n0 (b := 30) (by omega) (by decide) (by decide), l, _, _, rfl, rfl, upd_same, ?_, ?_⟩
        · have := D2.len
          rw [List.length_dropLast, List.length_map]
          exact Nat.lt_of_le_of_lt (by omega : _ ≤ 48) (by decide)
        · refine ⟨_, rfl, _, rfl, _, _, rfl, rfl, n0, ?_⟩
          refine k _ _ ⟨(x :: xs).dropLast ++ [(x :: xs).getLast (List.cons_ne_nil x xs) / n], b, ⟨?_, ?_, ?_, ?_, D2.b0, D2.b1⟩⟩ ((S2.trans SB.l).trans SB.l) (Int.emod_nonneg _ (by omega)) (Int.emod_lt_of_pos _ n0)
          · rw [upd_ne D2.ne]
            exact hd3
          · rw [upd_same, List.map_append, List.map_dropLast]
            rfl
          · intro y hy
            rcases List.mem_append.mp hy with h | h
            · exact D2.pos y (List.dropLast_subset _ h)
            · rw [List.mem_singleton.mp h]
              exact Int.ediv_nonneg h0 (by omega)
          · have := D2.len
            rw [List.length_append, List.length_dropLast]
            simp only [List.length_cons, List.length_nil] at this ⊢
            omega
    cases bs with
    | nil => exact iteF (after _ [] b D2 S2 (.inl rfl))
    | cons x xs =>
      refine iteT ?_
      refine ⟨_, rfl, d, _, 0, _, rfl, rfl, SqL.of D2.hd, rfl, _, rfl, l, _, -1, _, rfl, rfl, SqL.of D2.hl, atI_last (List.cons_ne_nil x xs), rfl, _, rfl, ?_⟩
      refine ite2 (fun h => ?_) (fun h => ?_)
      · refine ⟨fun σ' H' => ∃ m', m' < (x :: xs).length ∧ (σ' = [some (.ref d), some (.int n), none] ∧ SB d l H H' ∧ ∃ bs b, DealIs H' d l bs b ∧ m' = bs.length), fun _ _ h => h, ?_⟩
        refine ⟨_, rfl, d, _, 0, _, rfl, rfl, SqL.of D2.hd, rfl, .inl ⟨rfl, _, SqL.of D2.hl⟩, l, _, _, rfl, rfl, D2.hl, last_get (List.cons_ne_nil x xs), ?_⟩
        refine ⟨(x :: xs).dropLast.length, by rw [List.length_dropLast]; simp, rfl, S2.trans SB.l, (x :: xs).dropLast, b, ⟨?_, ?_, fun y hy => D2.pos y (List.dropLast_subset _ hy), ?_, D2.b0, D2.b1⟩, rfl⟩
        · rw [upd_ne D2.ne]
          exact D2.hd
        · rw [upd_same, List.map_dropLast]
        · have := D2.len
          rw [List.length_dropLast]
          omega
      · refine after _ (x :: xs) b D2 S2 (.inr ⟨List.cons_ne_nil x xs, fun e => h ?_⟩)
        rw [e]
        rfl
end
end Lk

set_option Elab.async false
set_option maxRecDepth 100000
set_option maxHeartbeats 1000000
namespace Lk
open PySem L2
/-! ### what stands but at some places -/
def KP (S : Addr → Prop) (H H' : Hp) : Prop := ∀ a o, H a = some o → ¬ S a → H' a = some o
def dl (d l : Addr) : Addr → Prop := fun a => a = d ∨ a = l
theorem SB.kp {d l : Addr} {H H' : Hp} (x : SB d l H H') : KP (dl d l) H H' := fun a o h n => x a o h (fun e => n (.inl e)) fun e => n (.inr e)
theorem KP.sb {d l : Addr} {H H' : Hp} (x : KP (dl d l) H H') : SB d l H H' := fun a o h n m => x a o h fun e => e.elim n m
theorem KP.refl (S : Addr → Prop) (H : Hp) : KP S H H := fun _ _ h _ => h
theorem KP.trans {S : Addr → Prop} {H H1 H2 : Hp} (x : KP S H H1) (y : KP S H1 H2) : KP S H H2 := fun a o h n => y a o (x a o h n) n
theorem KP.new {S : Addr → Prop} {H : Hp} {p : Addr} {o : HO} (h : H p = none) : KP S H (upd H p o) := fun a u e _ => by
  rw [upd_ne (ne_of_none e h)]
  exact e
theorem KP.mut {S : Addr → Prop} {H H1 : Hp} {p : Addr} {o : HO} (x : KP S H H1) (h : H p = none) : KP S H (upd H1 p o) := fun a u e n => by
  rw [upd_ne (ne_of_none e h)]
  exact x a u e n
theorem KP.same {S : Addr → Prop} {H H1 : Hp} (x : Same H H1) : KP S H H1 := fun a o h _ => x a o h
theorem KP.free {S : Addr → Prop} {H H1 : Hp} {p : Addr} (x : KP S H H1) (n : ¬ S p) (h : H1 p = none) : H p = none := by
  cases e : H p with
  | none => rfl
  | some o =>
    rw [x p o e n] at h
    cases h
theorem KP.get {S : Addr → Prop} {H H1 : Hp} {p : Addr} {o : HO} (x : KP S H H1) (n : ¬ S p) (h : H p = some o) : H1 p = some o := x p o h n
theorem KP.weak {S S' : Addr → Prop} {H H1 : Hp} (x : KP S H H1) (h : ∀ a, S a → S' a) : KP S' H H1 := fun a o e n => x a o e fun q => n (h a q)
theorem kp_upd {S : Addr → Prop} {H : Hp} {p : Addr} {o : HO} (h : S p) : KP S H (upd H p o) := fun a u e n => by
  rw [upd_ne fun q => n (by rw [q]; exact h)]
  exact e
theorem DealIs.out {H H' : Hp} {d l : Addr} {bs : List Int} {b : Int} (x : DealIs H d l bs b) (h1 : H' d = H d) (h2 : H' l = H l) : DealIs H' d l bs b :=
  ⟨h1.trans x.hd, h2.trans x.hl, x.pos, x.len, x.b0, x.b1⟩
theorem DealAt.out {H H' : Hp} {d l : Addr} (x : DealAt H d l) (h1 : H' d = H d) (h2 : H' l = H l) : DealAt H' d l := by
  obtain ⟨bs, b, y⟩ := x
  exact ⟨bs, b, y.out h1 h2⟩
theorem DealAt.upd {H : Hp} {d l p : Addr} {o : HO} (x : DealAt H d l) (n : ¬ dl d l p) : DealAt (upd H p o) d l :=
  x.out (upd_ne fun e => n (.inl e.symm)) (upd_ne fun e => n (.inr e.symm))
theorem DealAt.free {H : Hp} {d l p : Addr} (x : DealAt H d l) (h : H p = none) : ¬ dl d l p := fun e => by
  obtain ⟨bs, b, y⟩ := x
  rcases e with e | e
  · rw [e, y.hd] at h
    cases h
  · rw [e, y.hl] at h
    cases h

/-! ### comprehensions whose turns may draw -/
theorem wipe1 (σ : St) (j : Nat) (x : Option V) : wipe ((wipe σ [j]).set j x) [j] = wipe σ [j] := by
  show (((σ.set j none).set j x).set j none) = σ.set j none
  rw [List.set_set, List.set_set]
section
variable {K : PySem.W.Frag} {j : Nat} {te : TE} {σ : St} {H1 : Hp} {D : Addr} {Qd : Hp → Prop}
/-- what a comprehension keeps: D holds what is made so far -/
def Lcp (S : Addr → Prop) (I : Hp → Prop) (f : Nat → V → Hp → Prop) (H1 : Hp) (D : Addr) (i : Nat) (H : Hp) : Prop :=
  I H ∧ KP S H1 H ∧ ∃ ys : List V, H D = some (.lst ys) ∧ ys.length = i ∧ ∀ k y, ys[k]? = some y → f k y H
theorem Lcp.step {S : Addr → Prop} {I : Hp → Prop} {f : Nat → V → Hp → Prop} {i : Nat} {H H4 : Hp} {y : V} (hD : H1 D = none) (hS : ¬ S D) (mI : ∀ H o, I H → I (upd H D o)) (mf : ∀ i y H H', KP (fun a => S a ∨ a = D) H H' → f i y H → f i y H')
    (hi : i < 1000000) (x : Lcp S I f H1 D i H) (h1 : I H4) (h2 : KP S H H4) (h3 : f i y H4) : ∃ acc, H4 D = some (.lst acc) ∧ acc.length < sizeLine ∧ Lcp S I f H1 D (i + 1) (upd H4 D (.lst (acc ++ [y]))) := by
  obtain ⟨_, k1, ys, e, hl, hf⟩ := x
  refine ⟨ys, h2.get hS e, by rw [hl]; exact Nat.lt_trans hi (by decide), mI _ _ h1, (k1.trans h2).mut hD, ys ++ [y], upd_same, by rw [List.length_append, hl]; rfl, fun k z hz => ?_⟩
  have m1 : KP (fun a => S a ∨ a = D) H4 (upd H4 D (.lst (ys ++ [y]))) := kp_upd (.inr rfl)
  by_cases hk : k < ys.length
  · rw [List.getElem?_append_left hk] at hz
    exact mf _ _ _ _ ((h2.weak fun a q => .inl q).trans m1) (hf k z hz)
  · rw [List.getElem?_append_right (by omega)] at hz
    have hk0 : k - ys.length = 0 := by
      cases q : k - ys.length with
      | zero => rfl
      | succ m => rw [q] at hz; simp at hz
    rw [hk0] at hz
    have ez : y = z := Option.some.inj hz
    rw [← ez, show k = i by omega]
    exact mf _ _ _ _ m1 h3
theorem Lcp.zero {S : Addr → Prop} {I : Hp → Prop} {f : Nat → V → Hp → Prop} (hD : H1 D = none) (mI : ∀ H o, I H → I (upd H D o)) (h : I H1) : Lcp S I f H1 D 0 (upd H1 D (.lst [])) :=
  ⟨mI _ _ h, KP.new hD, [], upd_same, rfl, fun k y e => by simp at e⟩
theorem lcR {lo : Int} {n : Nat} (S : Addr → Prop) (I : Hp → Prop) (f : Nat → V → Hp → Prop) (hD : H1 D = none) (hS : ¬ S D) (hn : n ≤ 1000000) (hI : I H1) (mI : ∀ H o, I H → I (upd H D o))
    (mf : ∀ i y H H', KP (fun a => S a ∨ a = D) H H' → f i y H → f i y H')
    (hs : ∀ i H acc, i < n → I H → KP S H1 H → H D = some (.lst acc) → ∀ Q : VK, (∀ y H4, I H4 → KP S H H4 → f i y H4 → Q y H4) → te ((wipe σ [j]).set j (some (.int (lo + i)))) H Q)
    (hd : ∀ ys H', ys.length = n → (∀ i y, ys[i]? = some y → f i y H') → H' D = some (.lst ys) → I H' → KP S H1 H' → Qd H') :
    ∃ W : Nat → Nat → Hp → Prop, (∃ m, W 0 m (upd H1 D (.lst []))) ∧ ∀ i m H, W i m H →
      ((Itr lo n).stop i H ∧ Qd H) ∨ ((Itr lo n).go i H ∧ ∃ Nx : Hp → Prop, (∀ H', Nx H' → ∃ m', m' < m ∧ W (i + 1) m' H') ∧ ∀ x H', (Itr lo n).yld i H x H' → gName j x (wipe σ [j]) H' fun σ2 H2 => wipe σ2 [j] = wipe σ [j] ∧ tYes σ2 H2 fun b H3 =>
        if b = true then te σ2 H3 fun y H4 => ∃ acc, H4 D = some (.lst acc) ∧ acc.length < sizeLine ∧ Nx (upd H4 D (.lst (acc ++ [y]))) else Nx H3) := by
  refine lc_range (Lcp S I f H1 D) (Lcp.zero hD mI hI) (fun i H hi x => ?_) (fun H x => ?_)
  · refine ⟨wipe1 _ _ _, iteT (B := Lcp S I f H1 D (i + 1) H) ?_⟩
    obtain ⟨acc, e⟩ : ∃ acc, H D = some (.lst acc) := by
      obtain ⟨_, _, ys, e, _⟩ := x
      exact ⟨ys, e⟩
    exact hs i H acc hi x.1 x.2.1 e _ fun y H4 h1 h2 h3 => x.step hD hS mI mf (by omega) h1 h2 h3
  · obtain ⟨h1, h2, ys, e, hl, hf⟩ := x
    exact hd ys H hl hf e h1 h2
theorem lcL {a : Addr} {xs : List V} (S : Addr → Prop) (I : Hp → Prop) (f : Nat → V → Hp → Prop) (hD : H1 D = none) (hS : ¬ S D) (hn : xs.length ≤ 1000000) (hI : I H1) (mI : ∀ H o, I H → I (upd H D o))
    (mf : ∀ i y H H', KP (fun a => S a ∨ a = D) H H' → f i y H → f i y H') (ha : ∀ H, KP S H1 H → SqL K H a xs)
    (hs : ∀ i x H acc, xs[i]? = some x → I H → KP S H1 H → H D = some (.lst acc) → ∀ Q : VK, (∀ y H4, I H4 → KP S H H4 → f i y H4 → Q y H4) → te ((wipe σ [j]).set j (some x)) H Q)
    (hd : ∀ ys H', ys.length = xs.length → (∀ i y, ys[i]? = some y → f i y H') → H' D = some (.lst ys) → I H' → KP S H1 H' → Qd H') :
    ∃ W : Nat → Nat → Hp → Prop, (∃ m, W 0 m (upd H1 D (.lst []))) ∧ ∀ i m H, W i m H →
      ((Itl K a).stop i H ∧ Qd H) ∨ ((Itl K a).go i H ∧ ∃ Nx : Hp → Prop, (∀ H', Nx H' → ∃ m', m' < m ∧ W (i + 1) m' H') ∧ ∀ x H', (Itl K a).yld i H x H' → gName j x (wipe σ [j]) H' fun σ2 H2 => wipe σ2 [j] = wipe σ [j] ∧ tYes σ2 H2 fun b H3 =>
        if b = true then te σ2 H3 fun y H4 => ∃ acc, H4 D = some (.lst acc) ∧ acc.length < sizeLine ∧ Nx (upd H4 D (.lst (acc ++ [y]))) else Nx H3) := by
  refine lc_list (xs := xs) (Lcp S I f H1 D) (Lcp.zero hD mI hI) (fun i H _ x => ha H x.2.1) (fun i x0 H hi x => ?_) (fun H x => ?_)
  · have hi' : i < xs.length := (List.getElem?_eq_some_iff.mp hi).1
    refine ⟨wipe1 _ _ _, iteT (B := Lcp S I f H1 D (i + 1) H) ?_⟩
    obtain ⟨acc, e⟩ : ∃ acc, H D = some (.lst acc) := by
      obtain ⟨_, _, ys, e, _⟩ := x
      exact ⟨ys, e⟩
    exact hs i x0 H acc hi x.1 x.2.1 e _ fun y H4 h1 h2 h3 => x.step hD hS mI mf (by omega) h1 h2 h3
  · obtain ⟨h1, h2, ys, e, hl, hf⟩ := x
    exact hd ys H hl hf e h1 h2
end
end Lk

set_option Elab.async false
set_option maxRecDepth 100000
set_option maxHeartbeats 1000000
namespace Lk
open PySem L2
abbrev s_law_of : Stmt := top 27
abbrev N_law_of : List Str := ["_law_deal", "_law_some"]
abbrev P_law_of : List Str := ["_law_deal", "_law_some"]
theorem sc_law_of : FnScope N_law_of P_law_of (defScope s_law_of) := ⟨rfl, rfl, rfl, by decide +kernel, rfl, by decide +kernel, by decide +kernel⟩
abbrev s_law_mixed : Stmt := top 28
abbrev N_law_mixed : List Str := ["_law_deal", "_law_some", "_law_left", "_law_found"]
abbrev P_law_mixed : List Str := ["_law_deal", "_law_some"]
theorem sc_law_mixed : FnScope N_law_mixed P_law_mixed (defScope s_law_mixed) := ⟨rfl, rfl, rfl, by decide +kernel, rfl, by decide +kernel, by decide +kernel⟩
/-- some item of the list -/
def spOf : Sp := fun vs H Q _ => ∃ (d l a : Addr) (xs : List V), vs = [.ref d, .ref a] ∧ H a = some (.lst xs) ∧ ¬ dl d l a ∧ 0 < xs.length ∧ xs.length ≤ 1000 ∧ DealAt H d l ∧
  ∀ (H' : Hp) (i : Nat) (v : V), DealAt H' d l → SB d l H H' → xs[i]? = some v → Q v H'
/-- the ints of a list in some order, in a new list -/
def spMixed (K : PySem.W.Frag) : Sp := fun vs H Q _ => ∃ (d l a : Addr) (ns : List Int), vs = [.ref d, .ref a] ∧ SqL K H a (ns.map V.int) ∧ ns.length ≤ 1000 ∧ DealAt H d l ∧
  ∀ (H' : Hp) (p : Addr) (ms : List Int), DealAt H' d l → SB d l H H' → H p = none → H' p = some (.lst (ms.map V.int)) → ms.Perm ns → Q (.ref p) H'
section
variable {P : Program} {w : World} {K : PySem.W.Frag} {mg : Str → Option Value} {base : Heap}
theorem atI_int {α : Type} {xs : List α} {r : Int} {v : α} (h0 : 0 ≤ r) (h : xs[r.toNat]? = some v) : atI xs r = some v := by
  obtain ⟨n, rfl⟩ := Int.eq_ofNat_of_zero_le h0
  exact atI_nat h
theorem eraseIdx_map {α β : Type} (g : α → β) : ∀ (xs : List α) (i : Nat), (xs.map g).eraseIdx i = (xs.eraseIdx i).map g
  | [], _ => rfl
  | _ :: _, 0 => rfl
  | _ :: xs, i + 1 => congrArg (_ :: ·) (eraseIdx_map g xs i)
theorem perm_erase {α : Type} : ∀ {xs : List α} {i : Nat} (h : i < xs.length), ([xs[i]] ++ xs.eraseIdx i).Perm xs
  | [], _, h => absurd h (Nat.not_lt_zero _)
  | x :: xs, 0, _ => List.Perm.refl _
  | x :: xs, i + 1, h => by
    have h' : i < xs.length := Nat.lt_of_succ_lt_succ h
    have ih := perm_erase (xs := xs) (i := i) h'
    show ([xs[i]] ++ (x :: xs.eraseIdx i)).Perm (x :: xs)
    exact (List.Perm.swap x xs[i] (xs.eraseIdx i)).trans (ih.cons x)
theorem ok_of {f fa : Addr} {fd fda : FuncData} (A0 : Df K mg "_law_of" s_law_of f fd P_law_of) (d_law_any : Df K mg "_law_any" s_law_any fa fda P_law_any) (T : Txt mg) : FnOk P w K mg base CX0 2 f fd P_law_of spOf := by
  have G_law_any : FnOk P w K mg base CX0 1 fa fda P_law_any spAny := ok_any d_law_any T
  refine A0.F.ok sc_law_of (fun vs H Q E h => ?_) (fun cdv A outer s H vs Q E hr h => ?_)
  · obtain ⟨d, l, a, xs, rfl, _⟩ := h
    rfl
  · obtain ⟨d, l, a, xs, rfl, hx, na, h0, h1, D, k⟩ := h
    refine ⟨_, (pss_one (ps_ret (pe_ix ix_list (pv 1) (pe_call G_law_any (hr.mono (by decide)) rfl d_law_any.g d_law_any.F.kp d_law_any.b .nil pass0 (pa_cons (pv 0) (pa_cons (pe_callB call_len_seq (by rfl) T.len PySem.boot_len (pa_cons (pv 1) pa_nil)) pa_nil))) (fun _ _ => rfl)))), ?_⟩
    refine ⟨_, rfl, _, rfl, _, rfl, a, xs, rfl, .inl (SqL.of hx), d, l, _, rfl, by omega, by omega, D, fun H' r D' S' r0 r1 => ?_⟩
    have hx' : H' a = some (.lst xs) := S'.kp.get na hx
    have hi : r.toNat < xs.length := by omega
    refine ⟨a, xs, r, xs[r.toNat], rfl, rfl, SqL.of hx', ?_, ?_⟩
    · exact atI_int r0 (List.getElem?_eq_getElem hi)
    · exact k H' r.toNat _ D' S' (List.getElem?_eq_getElem hi)
theorem ok_mixed {f fa : Addr} {fd fda : FuncData} (A0 : Df K mg "_law_mixed" s_law_mixed f fd P_law_mixed) (d_law_any : Df K mg "_law_any" s_law_any fa fda P_law_any) (T : Txt mg) : FnOk P w K mg base CX0 2 f fd P_law_mixed (spMixed K) := by
  have G_law_any : FnOk P w K mg base CX0 1 fa fda P_law_any spAny := ok_any d_law_any T
  refine A0.F.ok sc_law_mixed (fun vs H Q E h => ?_) (fun cdv A outer s H vs Q E hr h => ?_)
  · obtain ⟨d, l, a, xs, rfl, _⟩ := h
    rfl
  · obtain ⟨d, l, a, ns, rfl, hx, h1, D, k⟩ := h
    have hu : A.units + 3 + 64 < cLine := by have := hr.un; simp only [Around.deeper] at this; omega
    refine ⟨_, (pss_cons (ps_par (i := 2) (j := 3) rfl sc_law_mixed.nd rfl rfl (by decide) rfl rfl (pa_cons (pe_callTy call_list_of (by rfl) T.list (by decide +kernel) (pa_cons (pv 1) pa_nil)) (pa_cons (pe_lst pa_nil) pa_nil)) rfl)
    (pss_cons (ps_while PassesOwn.never (pt_cmpR (op_neD hu) (pv 2) (pe_lst pa_nil) (nomark _))
      (pss_one (ps_expr (pe_bm PySem.F.plainAttrs_list PySem.F.slot_list_append PySem.F.type_list_append mt_append (pv 3) (pa_cons (pe_bm PySem.F.plainAttrs_list PySem.F.slot_list_pop PySem.F.type_list_pop mt_popAt (pv 2) (pa_cons (pe_call G_law_any (hr.mono (by decide)) rfl d_law_any.g d_law_any.F.kp d_law_any.b .nil pass0 (pa_cons (pv 0) (pa_cons (pe_callB call_len_seq (by rfl) T.len PySem.boot_len (pa_cons (pv 2) pa_nil)) pa_nil))) pa_nil)) pa_nil)))))
    (pss_one (ps_ret (pv 3))))), ?_⟩
    refine ⟨_, rfl, a, _, rfl, .inl hx, fun q hq => ⟨Nat.zero_le _, fun r hr0 => ⟨_, _, rfl, ?_⟩⟩⟩
    have nqr : q ≠ r := fun e => by rw [← e, upd_same] at hr0; cases hr0
    have q0 : H q = none := hq
    have r0 : H r = none := by rw [upd_ne nqr.symm] at hr0; exact hr0
    refine ⟨fun m σ H1 => ∃ ls fs : List Int, σ = [some (.ref d), some (.ref a), some (.ref q), some (.ref r)] ∧ DealAt H1 d l ∧ SB d l H H1 ∧ H1 q = some (.lst (ls.map V.int)) ∧ H1 r = some (.lst (fs.map V.int)) ∧ (fs ++ ls).Perm ns ∧ m = ls.length,
      ⟨_, ns, [], rfl, ?_, ?_, ?_, ?_, List.Perm.refl _, rfl⟩, ?_⟩
    · exact (D.new hq).new hr0
    · exact ((KP.new (S := dl d l) hq).trans (KP.new hr0)).sb
    · rw [upd_ne nqr, upd_same]
    · rw [upd_same]
      rfl
    · rintro m σ H1 ⟨ls, fs, rfl, D1, S1, hq1, hr1, hp, rfl⟩
      refine ⟨_, rfl, Nat.zero_le _, fun z hz => ⟨_, _, Dp.lst (SqL.of (by rw [upd_ne (ne_of_none hq1 hz)]; exact hq1)) (dpAll_ints _), Dp.lst (SqL.of upd_same) .nil, shaped_ints _, by decide +kernel, _, rfl, ?_⟩⟩
      have D2 := D1.new (o := HO.lst []) hz
      have S2 : SB d l H _ := S1.trans (SB.new (o := HO.lst []) hz)
      have hq2 : upd H1 z (HO.lst []) q = some (.lst (ls.map V.int)) := by rw [upd_ne (ne_of_none hq1 hz)]; exact hq1
      have hr2 : upd H1 z (HO.lst []) r = some (.lst (fs.map V.int)) := by rw [upd_ne (ne_of_none hr1 hz)]; exact hr1
      rw [eqv_nil]
      have nq : ¬ dl d l q := D.free q0
      have nr : ¬ dl d l r := D.free r0
      cases ls with
      | nil =>
        refine iteF ?_
        refine ⟨_, rfl, ?_⟩
        rw [List.append_nil] at hp
        exact k _ r fs D2 S2 r0 hr2 hp
      | cons x xs =>
        refine iteT ⟨fun σ' H' => ∃ m', m' < (x :: xs).length ∧ ∃ ls fs : List Int, σ' = [some (.ref d), some (.ref a), some (.ref q), some (.ref r)] ∧ DealAt H' d l ∧ SB d l H H' ∧ H' q = some (.lst (ls.map V.int)) ∧ H' r = some (.lst (fs.map V.int)) ∧ (fs ++ ls).Perm ns ∧ m' = ls.length, fun _ _ h => h, ?_⟩
        have hlen : (x :: xs).length ≤ 1000 := by
          have := hp.length_eq
          rw [List.length_append] at this
          omega
        refine ⟨_, rfl, .inl ⟨rfl, _, SqL.of hr2⟩, _, rfl, .inl ⟨rfl, _, SqL.of hq2⟩, _, rfl, _, rfl, q, _, rfl, .inl (SqL.of hq2), d, l, _, rfl, by rw [List.length_map]; simp, by rw [List.length_map]; omega, D2, fun H3 i D3 S3 i0 i1 => ?_⟩
        rw [List.length_map] at i1
        have hi : i.toNat < (x :: xs).length := by omega
        have hq3 : H3 q = some (.lst ((x :: xs).map V.int)) := S3.kp.get nq hq2
        have hr3 : H3 r = some (.lst (fs.map V.int)) := S3.kp.get nr hr2
        refine ⟨q, _, i, i.toNat, V.int (x :: xs)[i.toNat], rfl, rfl, hq3, by omega, by omega, seqIndex_of i0 (by rw [List.length_map]; exact i1), ?_, ?_⟩
        · rw [List.getElem?_map, List.getElem?_eq_getElem hi]
          rfl
        · refine ⟨r, _, _, rfl, rfl, by rw [upd_ne nqr.symm]; exact hr3, ?_, ?_⟩
          · have := hp.length_eq
            rw [List.length_append] at this
            rw [List.length_map]
            exact Nat.lt_of_le_of_lt (by omega : _ ≤ 1000) (by decide)
          · refine ⟨((x :: xs).eraseIdx i.toNat).length, ?_, (x :: xs).eraseIdx i.toNat, fs ++ [(x :: xs)[i.toNat]], rfl, ?_, ?_, ?_, ?_, ?_, rfl⟩
            · rw [List.length_eraseIdx, if_pos hi]
              omega
            · exact (D3.upd nq).upd nr
            · exact (((S2.trans S3).kp.mut q0).mut r0).sb
            · rw [upd_ne nqr, upd_same, eraseIdx_map]
            · rw [upd_same, List.map_append]
              rfl
            · rw [List.append_assoc]
              refine (List.Perm.append_left fs ?_).trans hp
              exact perm_erase hi
end
end Lk

set_option Elab.async false
set_option maxRecDepth 100000
set_option maxHeartbeats 1000000
namespace Lk
open PySem L2
/-! ### lists of lists of ints -/
theorem collect {τ : Type} {g : τ → V} : ∀ {ys : List V} {Φ : Nat → τ → Prop}, (∀ i y, ys[i]? = some y → ∃ t, y = g t ∧ Φ i t) → ∃ ts : List τ, ys = ts.map g ∧ ∀ i t, ts[i]? = some t → Φ i t
  | [], _, _ => ⟨[], rfl, fun i t h => by simp at h⟩
  | y :: ys, Φ, h => by
    obtain ⟨t, rfl, h0⟩ := h 0 y rfl
    obtain ⟨ts, rfl, h1⟩ := collect (ys := ys) (Φ := fun i => Φ (i + 1)) fun i y e => h (i + 1) y e
    refine ⟨t :: ts, rfl, fun i u e => ?_⟩
    cases i with
    | zero =>
      have e' : t = u := Option.some.inj e
      rw [← e']
      exact h0
    | succ i => exact h1 i u e
structure GridAt (H : Hp) (p : Addr) (ts : List (Addr × List Int)) : Prop where
  top : H p = some (.lst (ts.map fun t => V.ref t.1))
  row : ∀ t ∈ ts, H t.1 = some (.lst (t.2.map V.int))
structure NewG (H : Hp) (p : Addr) (ts : List (Addr × List Int)) : Prop where
  top : H p = none
  row : ∀ t ∈ ts, H t.1 = none
theorem GridAt.kp {S : Addr → Prop} {H H' : Hp} {p : Addr} {ts : List (Addr × List Int)} (x : GridAt H p ts) (k : KP S H H') (h : ¬ S p) (hr : ∀ t ∈ ts, ¬ S t.1) : GridAt H' p ts :=
  ⟨k.get h x.top, fun t ht => k.get (hr t ht) (x.row t ht)⟩
theorem GridAt.same {H H' : Hp} {p : Addr} {ts : List (Addr × List Int)} (x : GridAt H p ts) (k : Same H H') : GridAt H' p ts := ⟨k _ _ x.top, fun t ht => k _ _ (x.row t ht)⟩
theorem KP.toSame {H H' : Hp} (x : KP (fun _ => False) H H') : Same H H' := fun a o h => x a o h id
theorem mem_of_get {α : Type} {xs : List α} {i : Nat} {x : α} (h : xs[i]? = some x) : x ∈ xs := List.mem_of_getElem? h
abbrev s_law_columns : Stmt := top 29
abbrev N_law_columns : List Str := ["_law_columns_here", "_law_column_here", "_law_state"]
abbrev P_law_columns : List Str := ["_law_columns_here"]
theorem sc_law_columns : FnScope N_law_columns P_law_columns (defScope s_law_columns) := ⟨rfl, rfl, rfl, by decide +kernel, rfl, by decide +kernel, by decide +kernel⟩
/-- columns turned into rows: of each row the length, and where its ints come from -/
def spColumns : Sp := fun vs H Q _ => ∃ (a : Addr) (ts : List (Addr × List Int)) (n : Nat), vs = [.ref a] ∧ GridAt H a ts ∧ 0 < ts.length ∧ ts.length ≤ 1000 ∧ n ≤ 1000 ∧ (∀ t ∈ ts, t.2.length = n) ∧
  ∀ (H' : Hp) (p : Addr) (us : List (Addr × List Int)), Same H H' → NewG H p us → GridAt H' p us → us.length = n → (∀ u ∈ us, u.2.length = ts.length ∧ ∀ z ∈ u.2, ∃ t ∈ ts, z ∈ t.2) → Q (.ref p) H'
section
variable {P : Program} {w : World} {K : PySem.W.Frag} {mg : Str → Option Value} {base : Heap}
theorem ok_columns {f : Addr} {fd : FuncData} (A0 : Df K mg "_law_columns" s_law_columns f fd P_law_columns) (T : Txt mg) : FnOk P w K mg base CX0 1 f fd P_law_columns spColumns := by
  refine A0.F.ok sc_law_columns (fun vs H Q E h => ?_) (fun cdv A outer s H vs Q E hr h => ?_)
  · obtain ⟨a, ts, n, rfl, _⟩ := h
    rfl
  · obtain ⟨a, ts, n, rfl, G, t0, t1, n1, hn, k⟩ := h
    refine ⟨_, (pss_one (ps_ret (pe_lc (own := [("_law_state", 2)]) (g := gName 2) (tt := tYes) (te := tLc (iList K (tVar 0)) (gName 1) tYes (tOp (rIxL K) (tVar 1) (tVar 2)) [1]) rfl sc_law_columns.nd (pi_range1 rfl T.range (pa_cons (pe_callB call_len_seq (by rfl) T.len PySem.boot_len (pa_cons (pe_ix ix_list (pv 0) pe_int (fun _ _ => rfl)) pa_nil)) pa_nil)) (blkOk_by (N := N_law_columns) (sc := defScope s_law_columns) (by decide +kernel)) (fun _ _ _ _ _ => (pg_name (i := 2) sc_law_columns.nd rfl (Or.inr rfl))) (fun _ _ _ _ _ => pts_nil)
      (fun _ _ _ _ _ => (pe_lc (own := [("_law_column_here", 1)]) (wi := iList K (tVar 0)) (g := gName 1) (tt := tYes) (te := tOp (rIxL K) (tVar 1) (tVar 2)) rfl sc_law_columns.nd (pi_list (pv 0)) (blkOk_by (N := N_law_columns) (sc := { kind := .function, names := [(".0", .local), ("_law_state", .cell), ("_law_columns_here", .cell)], isGenerator := false, isCoroutine := false }) (by decide +kernel)) (fun _ _ _ _ _ => (pg_name (i := 1) sc_law_columns.nd rfl (Or.inl rfl))) (fun _ _ _ _ _ => pts_nil) (fun _ _ _ _ _ => (pe_ix ix_list (pv 1) (pv 2) (fun _ _ => rfl)))))))), ?_⟩
    obtain ⟨u0, us, rfl⟩ : ∃ u0 us, ts = u0 :: us := by
      cases ts with
      | nil => simp at t0
      | cons u0 us => exact ⟨u0, us, rfl⟩
    have h00 := hn u0 List.mem_cons_self
    refine ⟨_, rfl, a, _, 0, V.ref u0.1, rfl, rfl, SqL.of G.top, atI_int (by decide) rfl, u0.1, _, rfl, .inl (SqL.of (G.row u0 List.mem_cons_self)), _, rfl, by omega, by rw [List.length_map]; omega, fun D hD => ?_⟩
    rw [List.length_map, h00]
    refine lcR (fun _ => False) (fun _ => True) (fun i y H' => ∃ t : Addr × List Int, y = V.ref t.1 ∧ H t.1 = none ∧ t.1 ≠ D ∧ H' t.1 = some (.lst (t.2.map V.int)) ∧ t.2.length = (u0 :: us).length ∧ ∀ z ∈ t.2, ∃ q ∈ (u0 :: us), z ∈ q.2)
      hD id (by simp; omega) trivial (fun _ _ _ => trivial) (fun i y H1 H2 kp ⟨t, e, h1, h2, h3, h4⟩ => ⟨t, e, h1, h2, kp.get (fun q => q.elim id h2) h3, h4⟩) (fun i H1 acc hi _ k1 hD1 Q1 kQ => ?_) (fun ys H' hl hf hD' _ kp => ?_)
    · simp at hi
      have G1 : GridAt H1 a (u0 :: us) := G.same k1.toSame
      refine ⟨_, rfl, a, rfl, ⟨_, SqL.of G1.top⟩, fun D2 hD2 => ?_⟩
      refine lcL (xs := (u0 :: us).map fun t => V.ref t.1) (fun _ => False) (fun _ => True) (fun i y _ => ∃ z : Int, y = V.int z ∧ ∃ q ∈ (u0 :: us), z ∈ q.2) hD2 id (by rw [List.length_map]; omega) trivial (fun _ _ _ => trivial) (fun _ _ _ _ _ x => x) (fun H2 kp => SqL.of (kp.get id G1.top))
        (fun j x H2 acc2 hj _ k2 _ Q2 kQ2 => ?_) (fun ys2 H3 hl2 hf2 hD3 _ kp3 => ?_)
      · rw [List.getElem?_map] at hj
        obtain ⟨t, ht, rfl⟩ : ∃ t, (u0 :: us)[j]? = some t ∧ V.ref t.1 = x := by
          cases e : (u0 :: us)[j]? with
          | none => rw [e] at hj; cases hj
          | some t => rw [e] at hj; exact ⟨t, rfl, Option.some.inj hj⟩
        have hm := mem_of_get ht
        have hlt : i < t.2.length := by rw [hn t hm]; exact hi
        refine ⟨_, rfl, _, rfl, t.1, _, _, V.int t.2[i], rfl, rfl, SqL.of (k2.get id (G1.row t hm)), ?_, kQ2 _ _ trivial (KP.refl _ _) ⟨_, rfl, t, hm, List.getElem_mem hlt⟩⟩
        refine atI_int (by omega) ?_
        have e : ((0 : Int) + (i : Int)).toNat = i := by omega
        rw [e, List.getElem?_map, List.getElem?_eq_getElem hlt]
        rfl
      · obtain ⟨zs, rfl, hz⟩ := collect (g := V.int) hf2
        refine kQ _ _ trivial kp3 ⟨(D2, zs), rfl, k1.free id hD2, fun e => ?_, hD3, by rw [List.length_map] at hl2; rw [hl2, List.length_map], fun z hz' => ?_⟩
        · have e' : D2 = D := e
          rw [e', hD1] at hD2
          cases hD2
        · obtain ⟨j, hj⟩ := List.getElem?_of_mem hz'
          exact hz j z hj
    · obtain ⟨vs, rfl, hv⟩ := collect (g := fun t : Addr × List Int => V.ref t.1) hf
      have hv' : ∀ t ∈ vs, H t.1 = none ∧ t.1 ≠ D ∧ H' t.1 = some (.lst (t.2.map V.int)) ∧ t.2.length = (u0 :: us).length ∧ ∀ z ∈ t.2, ∃ q ∈ (u0 :: us), z ∈ q.2 := fun t ht => by
        obtain ⟨j, hj⟩ := List.getElem?_of_mem ht
        exact hv j t hj
      refine k H' D vs kp.toSame ⟨hD, fun t ht => (hv' t ht).1⟩ ⟨hD', fun t ht => (hv' t ht).2.2.1⟩ ?_ fun t ht => (hv' t ht).2.2.2
      rw [List.length_map] at hl
      rw [hl]
      simp
end
end Lk

set_option Elab.async false
set_option maxRecDepth 100000
set_option maxHeartbeats 1000000
namespace Lk
open PySem L2
abbrev s_law_column : Stmt := top 30
abbrev N_law_column : List Str := ["_law_deal", "_law_form", "_law_many", "_law_to", "_law_state", "_law_half"]
abbrev P_law_column : List Str := ["_law_deal", "_law_form", "_law_many"]
theorem sc_law_column : FnScope N_law_column P_law_column (defScope s_law_column) := ⟨rfl, rfl, rfl, by decide +kernel, rfl, by decide +kernel, by decide +kernel⟩
/-- a column: as many ints as there are states, each a state -/
def spColumn : Sp := fun vs H Q _ => ∃ (d l : Addr) (form n : Int), vs = [.ref d, .int form, .int n] ∧ 0 < n ∧ n ≤ 1000 ∧ DealAt H d l ∧
  ∀ (H' : Hp) (p : Addr) (ns : List Int), DealAt H' d l → SB d l H H' → H p = none → H' p = some (.lst (ns.map V.int)) → (ns.length : Int) = n → (∀ z ∈ ns, 0 ≤ z ∧ z < n) → Q (.ref p) H'
section
variable {j : Nat} {te : TE} {σ : St} {H1 : Hp} {D : Addr} {Qd : Hp → Prop} {d l : Addr}
/-- a list of drawn ints over a range -/
theorem lcI {n : Nat} (φ : Nat → Int → Prop) (hD : H1 D = none) (hI : DealAt H1 d l) (hn : n ≤ 1000000)
    (hs : ∀ i H, i < n → DealAt H d l → SB d l H1 H → ∀ Q : VK, (∀ z H4, DealAt H4 d l → SB d l H H4 → φ i z → Q (.int z) H4) → te ((wipe σ [j]).set j (some (.int (0 + i)))) H Q)
    (hd : ∀ (ns : List Int) H', ns.length = n → (∀ (i : Nat) z, ns[i]? = some z → φ i z) → H' D = some (.lst (ns.map V.int)) → DealAt H' d l → SB d l H1 H' → Qd H') :
    ∃ W : Nat → Nat → Hp → Prop, (∃ m, W 0 m (upd H1 D (.lst []))) ∧ ∀ i m H, W i m H →
      ((Itr 0 n).stop i H ∧ Qd H) ∨ ((Itr 0 n).go i H ∧ ∃ Nx : Hp → Prop, (∀ H', Nx H' → ∃ m', m' < m ∧ W (i + 1) m' H') ∧ ∀ x H', (Itr 0 n).yld i H x H' → gName j x (wipe σ [j]) H' fun σ2 H2 => wipe σ2 [j] = wipe σ [j] ∧ tYes σ2 H2 fun b H3 =>
        if b = true then te σ2 H3 fun y H4 => ∃ acc, H4 D = some (.lst acc) ∧ acc.length < sizeLine ∧ Nx (upd H4 D (.lst (acc ++ [y]))) else Nx H3) := by
  have nD : ¬ dl d l D := hI.free hD
  refine lcR (dl d l) (fun H => DealAt H d l) (fun i y _ => ∃ z : Int, y = V.int z ∧ φ i z) hD nD hn hI (fun H o x => x.upd nD) (fun _ _ _ _ _ x => x) (fun i H acc hi x k1 _ Q kQ => ?_) (fun ys H' hl hf hD' x k1 => ?_)
  · exact hs i H hi x k1.sb Q fun z H4 x4 k4 hz => kQ _ _ x4 k4.kp ⟨z, rfl, hz⟩
  · obtain ⟨zs, rfl, hz⟩ := collect (g := V.int) hf
    exact hd zs H' (by rw [← hl, List.length_map]) hz hD' x k1.sb
end
theorem flat_rep {α : Type} (x : α) : ∀ k : Nat, (List.replicate k [x]).flatten = List.replicate k x
  | 0 => rfl
  | k + 1 => by
    show [x] ++ (List.replicate k [x]).flatten = _
    rw [flat_rep x k] <;> rfl
theorem all_of_get {ns : List Int} {φ : Int → Prop} (h : ∀ (i : Nat) z, ns[i]? = some z → φ z) : ∀ z ∈ ns, φ z := fun z hz => by
  obtain ⟨i, hi⟩ := List.getElem?_of_mem hz
  exact h i z hi
section
variable {P : Program} {w : World} {K : PySem.W.Frag} {mg : Str → Option Value} {base : Heap}
theorem ok_column {f fa fm : Addr} {fd fda fdm : FuncData} (A0 : Df K mg "_law_column" s_law_column f fd P_law_column) (d_law_any : Df K mg "_law_any" s_law_any fa fda P_law_any) (d_law_mixed : Df K mg "_law_mixed" s_law_mixed fm fdm P_law_mixed) (T : Txt mg) : FnOk P w K mg base CX0 3 f fd P_law_column spColumn := by
  have G_law_any : FnOk P w K mg base CX0 1 fa fda P_law_any spAny := ok_any d_law_any T
  have G_law_mixed : FnOk P w K mg base CX0 2 fm fdm P_law_mixed (spMixed K) := ok_mixed d_law_mixed d_law_any T
  refine A0.F.ok sc_law_column (fun vs H Q E h => ?_) (fun cdv A outer s H vs Q E hr h => ?_)
  · obtain ⟨d, l, form, n, rfl, _⟩ := h
    rfl
  · obtain ⟨d, l, form, n, rfl, n0, n1, D, k⟩ := h
    refine ⟨_, (pss_cons (ps_set (i := 3) sc_law_column.nd rfl (Or.inr rfl) (pe_call G_law_any (hr.mono (by decide)) rfl d_law_any.g d_law_any.F.kp d_law_any.b .nil pass0 (pa_cons (pv 0) (pa_cons (pv 2) pa_nil))))
    (pss_cons (ps_if (pt_cmpR op_eq (pv 1) pe_int (nomark _)) (pss_one (ps_ret (pe_lc (own := [("_law_state", 4)]) (g := gName 4) (tt := tYes) rfl sc_law_column.nd (pi_range1 rfl T.range (pa_cons (pv 2) pa_nil)) (blkOk_by (N := N_law_column) (sc := defScope s_law_column) (by decide +kernel)) (fun _ _ _ _ _ => (pg_name (i := 4) sc_law_column.nd rfl (Or.inl rfl))) (fun _ _ _ _ _ => pts_nil) (fun _ _ _ _ _ => (pe_op op_mod (pe_callTy call_int1 (by rfl) T.int (by decide +kernel) (pa_cons (pe_op op_add (pv 4) (pv 3)) pa_nil)) (pv 2)))))) pss_nil)
    (pss_cons (ps_if (pt_cmpR op_eq (pv 1) pe_int (nomark _)) (pss_one (ps_ret (pe_op op_rep (pe_lst (pa_cons (pv 3) pa_nil)) (pv 2)))) pss_nil)
    (pss_cons (ps_if (pt_cmpR op_eq (pv 1) pe_int (nomark _)) (pss_one (ps_ret (pe_lc (own := [("_law_state", 4)]) (g := gName 4) (tt := tYes) rfl sc_law_column.nd (pi_range1 rfl T.range (pa_cons (pv 2) pa_nil)) (blkOk_by (N := N_law_column) (sc := defScope s_law_column) (by decide +kernel)) (fun _ _ _ _ _ => (pg_name (i := 4) sc_law_column.nd rfl (Or.inl rfl))) (fun _ _ _ _ _ => pts_nil) (fun _ _ _ _ _ => (pe_ifExp (pt_cmpR op_eq (pv 4) pe_int (nomark _)) (pv 3) (pv 4)))))) pss_nil)
    (pss_cons (ps_if (pt_cmpR op_eq (pv 1) pe_int (nomark _)) (pss_one (ps_ret (pe_lc (own := [("_law_state", 4)]) (g := gName 4) (tt := tYes) rfl sc_law_column.nd (pi_range1 rfl T.range (pa_cons (pv 2) pa_nil)) (blkOk_by (N := N_law_column) (sc := defScope s_law_column) (by decide +kernel)) (fun _ _ _ _ _ => (pg_name (i := 4) sc_law_column.nd rfl (Or.inl rfl))) (fun _ _ _ _ _ => pts_nil) (fun _ _ _ _ _ => (pe_callB (call_max2 rfl) (by rfl) T.max (by decide +kernel) (pa_cons pe_int (pa_cons (pe_callB (call_min2 rfl) (by rfl) T.min (by decide +kernel) (pa_cons (pe_op op_sub (pv 2) pe_int) (pa_cons (pe_op op_sub (pe_op op_add (pv 4) (pv 3)) pe_int) pa_nil))) pa_nil))))))) pss_nil)
    (pss_cons (ps_if (pt_cmpR op_eq (pv 1) pe_int (nomark _)) (pss_one (ps_ret (pe_call G_law_mixed (hr.mono (by decide)) rfl d_law_mixed.g d_law_mixed.F.kp d_law_mixed.b .nil pass0 (pa_cons (pv 0) (pa_cons (pe_listRg rfl (by rfl) T.list (prg_1 (by rfl) T.range (pv 2))) pa_nil))))) pss_nil)
    (pss_cons (ps_if (pt_cmpR op_eq (pv 1) pe_int (nomark _)) (pss_one (ps_ret (pe_lc (own := [("_law_state", 4)]) (g := gName 4) (tt := tYes) rfl sc_law_column.nd (pi_range1 rfl T.range (pa_cons (pv 2) pa_nil)) (blkOk_by (N := N_law_column) (sc := defScope s_law_column) (by decide +kernel)) (fun _ _ _ _ _ => (pg_name (i := 4) sc_law_column.nd rfl (Or.inl rfl))) (fun _ _ _ _ _ => pts_nil) (fun _ _ _ _ _ => (pe_callB (call_max2 rfl) (by rfl) T.max (by decide +kernel) (pa_cons (pv 4) (pa_cons (pv 3) pa_nil))))))) pss_nil)
    (pss_cons (ps_if (pt_cmpR op_eq (pv 1) pe_int (nomark _)) (pss_cons (ps_set (i := 5) sc_law_column.nd rfl (Or.inr rfl) (pe_callB (call_max2 rfl) (by rfl) T.max (by decide +kernel) (pa_cons pe_int (pa_cons (pe_op op_fdiv (pv 2) pe_int) pa_nil))))
      (pss_one (ps_ret (pe_lc (own := [("_law_state", 4)]) (g := gName 4) (tt := tYes) rfl sc_law_column.nd (pi_range1 rfl T.range (pa_cons (pv 2) pa_nil)) (blkOk_by (N := N_law_column) (sc := defScope s_law_column) (by decide +kernel)) (fun _ _ _ _ _ => (pg_name (i := 4) sc_law_column.nd rfl (Or.inl rfl))) (fun _ _ _ _ _ => pts_nil) (fun _ _ _ _ _ => (pe_op op_add (pe_op op_mod (pe_callTy call_int1 (by rfl) T.int (by decide +kernel) (pa_cons (pe_op op_add (pv 4) (pv 3)) pa_nil)) (pv 5)) (pe_ifExp (PW.pt (pw_and (pt_cmpR op_ge (pv 4) (pv 5) (nomark _)) (pw_and1 (pt_cmpR op_le (pe_op op_mul pe_int (pv 5)) (pv 2) (nomark _))))) (pv 5) pe_int))))))) pss_nil)
    (pss_one (ps_ret (pe_lc (own := [("_law_state", 4)]) (g := gName 4) (tt := tYes) rfl sc_law_column.nd (pi_range1 rfl T.range (pa_cons (pv 2) pa_nil)) (blkOk_by (N := N_law_column) (sc := defScope s_law_column) (by decide +kernel)) (fun _ _ _ _ _ => (pg_name (i := 4) sc_law_column.nd rfl (Or.inl rfl))) (fun _ _ _ _ _ => pts_nil) (fun _ _ _ _ _ => (pe_call G_law_any (hr.mono (by decide)) rfl d_law_any.g d_law_any.F.kp d_law_any.b .nil pass0 (pa_cons (pv 0) (pa_cons (pv 2) pa_nil))))))))))))))), ?_⟩
    refine ⟨_, rfl, _, rfl, d, l, n, rfl, n0, by omega, D, fun H1 to D1 S1 to0 to1 => ?_⟩
    have back : ∀ (H' : Hp) (p : Addr) (ns : List Int), H1 p = none → DealAt H' d l → SB d l H1 H' → H' p = some (.lst (ns.map V.int)) → ns.length = n.toNat → (∀ z ∈ ns, 0 ≤ z ∧ z < n) → Q (.ref p) H' := fun H' p ns h1 h2 h3 h4 h5 h6 =>
      k H' p ns h2 (S1.trans h3) (S1.kp.free (D1.free h1) h1) h4 (by omega) h6
    refine ⟨_, rfl, rfl, _, rfl, ite2 (fun _ => ?_) (fun _ => ?_)⟩
    · refine ⟨_, rfl, n, rfl, by omega, by omega, fun p hp => lcI (fun _ z => 0 ≤ z ∧ z < n) hp D1 (by omega) (fun i H hi x _ Q kQ => ?_) (fun ns H' hl hz hD x k1 => back H' p ns hp x k1 hD hl (all_of_get hz))⟩
      exact ⟨_, rfl, _, rfl, _, _, rfl, rfl, .inl ⟨_, rfl, _, rfl, _, _, rfl, rfl, n0, kQ _ _ x (SB.refl _ _ _) ⟨Int.emod_nonneg _ (by omega), Int.emod_lt_of_pos _ n0⟩⟩⟩
    refine ⟨_, rfl, rfl, _, rfl, ite2 (fun _ => ?_) (fun _ => ?_)⟩
    · refine ⟨_, rfl, by show 1 ≤ sizeLine; decide, fun q hq => ⟨_, rfl, q, n, _, rfl, rfl, upd_same, by omega, by omega, Nat.le_trans (show 1 * n.toNat ≤ 1000 by omega) (by decide), fun p hp => ?_⟩⟩
      rw [flat_rep]
      have hp1 : H1 p = none := (KP.new (S := dl d l) hq).free ((D1.new hq).free hp) hp
      refine back _ p (List.replicate n.toNat to) hp1 ((D1.new hq).new hp) ((SB.new hq).trans (SB.new hp)) (by rw [upd_same, List.map_replicate]) (by simp) fun z hz => ?_
      rw [List.eq_of_mem_replicate hz]
      exact ⟨to0, to1⟩
    refine ⟨_, rfl, rfl, _, rfl, ite2 (fun _ => ?_) (fun _ => ?_)⟩
    · refine ⟨_, rfl, n, rfl, by omega, by omega, fun p hp => lcI (fun _ z => 0 ≤ z ∧ z < n) hp D1 (by omega) (fun i H hi x _ Q kQ => ?_) (fun ns H' hl hz hD x k1 => back H' p ns hp x k1 hD hl (all_of_get hz))⟩
      refine ⟨_, rfl, rfl, _, rfl, ite2 (fun _ => ?_) (fun _ => ?_)⟩
      · exact ⟨_, rfl, kQ _ _ x (SB.refl _ _ _) ⟨to0, to1⟩⟩
      · exact ⟨_, rfl, kQ _ _ x (SB.refl _ _ _) ⟨by omega, by omega⟩⟩
    refine ⟨_, rfl, rfl, _, rfl, ite2 (fun _ => ?_) (fun _ => ?_)⟩
    · refine ⟨_, rfl, n, rfl, by omega, by omega, fun p hp => lcI (fun _ z => 0 ≤ z ∧ z < n) hp D1 (by omega) (fun i H hi x _ Q kQ => ?_) (fun ns H' hl hz hD x k1 => back H' p ns hp x k1 hD hl (all_of_get hz))⟩
      refine ⟨_, rfl, _, _, rfl, rfl, _, rfl, _, rfl, _, _, rfl, rfl, _, _, rfl, rfl, _, _, rfl, _, _, rfl, ?_⟩
      refine kQ _ _ x (SB.refl _ _ _) ⟨?_, ?_⟩
      · split <;> omega
      · split
        · split <;> omega
        · omega
    refine ⟨_, rfl, rfl, _, rfl, ite2 (fun _ => ?_) (fun _ => ?_)⟩
    · refine ⟨_, rfl, _, rfl, n, rfl, RgOk.of_le (by decide) (by omega) (by decide) (by omega), fun q hq => ?_⟩
      refine ⟨d, l, q, (List.range n.toNat).map fun i => ((i : Nat) : Int), rfl, SqL.of ?_, by simp; omega, D1.new hq, fun H' p ms x k1 h1 h2 h3 => ?_⟩
      · rw [upd_same]
        unfold rgV
        rw [List.map_map]
        simp
      · refine back H' p ms (KP.free (S := dl d l) (KP.new hq) ((D1.new hq).free h1) h1) x ((SB.new hq).trans k1) h2 ?_ fun z hz => ?_
        · rw [h3.length_eq]
          simp
        · obtain ⟨i, hi, rfl⟩ := List.mem_map.mp (h3.mem_iff.mp hz)
          have := List.mem_range.mp hi
          omega
    refine ⟨_, rfl, rfl, _, rfl, ite2 (fun _ => ?_) (fun _ => ?_)⟩
    · refine ⟨_, rfl, n, rfl, by omega, by omega, fun p hp => lcI (fun _ z => 0 ≤ z ∧ z < n) hp D1 (by omega) (fun i H hi x _ Q kQ => ?_) (fun ns H' hl hz hD x k1 => back H' p ns hp x k1 hD hl (all_of_get hz))⟩
      refine ⟨_, rfl, _, rfl, _, _, rfl, kQ _ _ x (SB.refl _ _ _) ⟨?_, ?_⟩⟩
      · split <;> omega
      · split <;> omega
    refine ⟨_, rfl, rfl, _, rfl, ite2 (fun _ => ?_) (fun _ => ?_)⟩
    · refine ⟨_, rfl, _, _, rfl, rfl, ⟨by decide, by decide⟩, _, _, rfl, ?_⟩
      refine ⟨_, rfl, n, rfl, by omega, by omega, fun p hp => lcI (fun _ z => 0 ≤ z ∧ z < n) hp D1 (by omega) (fun i H hi x _ Q kQ => ?_) (fun ns H' hl hz hD x k1 => back H' p ns hp x k1 hD hl (all_of_get hz))⟩
      obtain ⟨half, eh, h0, h1, h2⟩ : ∃ half : Int, half = (if n / 2 > 1 then n / 2 else 1) ∧ 0 < half ∧ half ≤ n ∧ True := ⟨_, rfl, by split <;> omega, by split <;> omega, trivial⟩
      have r0 := Int.emod_nonneg (0 + (i : Int) + to) (show half ≠ 0 by omega)
      have r1 := Int.emod_lt_of_pos (0 + (i : Int) + to) h0
      have hb : ∀ y : Int, (y = half ∧ 2 * half ≤ n) ∨ y = 0 → 0 ≤ (0 + (i : Int) + to) % half + y ∧ (0 + (i : Int) + to) % half + y < n := fun y hy => by
        rcases hy with ⟨e, q⟩ | e <;> omega
      refine ⟨_, rfl, _, rfl, _, _, rfl, rfl, .inl ⟨_, rfl, _, rfl, _, _, rfl, rfl, ?_, ?_⟩⟩
      · rw [← eh]
        exact h0
      · refine ⟨_, rfl, _, rfl, _, _, rfl, rfl, _, rfl, ite2 (fun h3 => ?_) (fun _ => ?_)⟩
        · refine ⟨_, rfl, _, _, rfl, rfl, .inl ⟨by decide, by decide⟩, _, rfl, _, _, rfl, rfl, _, rfl, ite2 (fun h4 => ?_) (fun _ => ?_)⟩
          · have h4' := of_decide_eq_true h4
            rw [← eh] at h4'
            refine ⟨_, rfl, _, _, rfl, rfl, kQ _ _ x (SB.refl _ _ _) ?_⟩
            rw [← eh]
            exact hb half (.inl ⟨rfl, h4'⟩)
          · refine ⟨_, _, rfl, rfl, kQ _ _ x (SB.refl _ _ _) ?_⟩
            rw [← eh]
            exact hb 0 (.inr rfl)
        · refine iteF ⟨_, _, rfl, rfl, kQ _ _ x (SB.refl _ _ _) ?_⟩
          rw [← eh]
          exact hb 0 (.inr rfl)
    · refine ⟨_, rfl, n, rfl, by omega, by omega, fun p hp => lcI (fun _ z => 0 ≤ z ∧ z < n) hp D1 (by omega) (fun i H hi x _ Q kQ => ?_) (fun ns H' hl hz hD x k1 => back H' p ns hp x k1 hD hl (all_of_get hz))⟩
      exact ⟨_, rfl, _, rfl, d, l, n, rfl, n0, by omega, x, fun H4 r x4 k4 r0 r1 => kQ _ _ x4 k4 ⟨r0, r1⟩⟩
end
end Lk

set_option Elab.async false
set_option maxRecDepth 100000
set_option maxHeartbeats 1000000
namespace Lk
open PySem L2
abbrev s_law_machine : Stmt := top 31
abbrev N_law_machine : List Str := ["_law_deal", "_law_most", "_law_form", "_law_commands", "_law_one", "_law_other", "_law_s", "_law_many", "_law_columns_here", "_law_command", "_law_kind"]
abbrev P_law_machine : List Str := ["_law_deal", "_law_most"]
theorem sc_law_machine : FnScope N_law_machine P_law_machine (defScope s_law_machine) := ⟨rfl, rfl, rfl, by decide +kernel, rfl, by decide +kernel, by decide +kernel⟩
/-- as a machine's steps: rows of A states each -/
structure RowsOk (A : Nat) (ts : List (Addr × List Int)) : Prop where
  pos : 0 < ts.length
  row : ∀ t ∈ ts, t.2.length = A ∧ ∀ z ∈ t.2, 0 ≤ z ∧ z < (ts.length : Int)
/-- a drawn machine: (commands, steps) -/
def spMachine : Sp := fun vs H Q _ => ∃ (d l : Addr) (most : Int), vs = [.ref d, .int most] ∧ 0 < most ∧ most ≤ 100 ∧ DealAt H d l ∧
  ∀ (H' : Hp) (t p : Addr) (A : Nat) (ts : List (Addr × List Int)), DealAt H' d l → SB d l H H' → H t = none → H' t = some (.tup [.int A, .ref p]) → NewG H p ts → GridAt H' p ts → 0 < A → A ≤ 3 → (ts.length : Int) ≤ most → RowsOk A ts → Q (.ref t) H'
theorem GridAt.snoc {H : Hp} {c p : Addr} {ts : List (Addr × List Int)} {ns : List Int} (x : GridAt H c ts) (hp : H p = some (.lst (ns.map V.int))) (n : p ≠ c) (hr : ∀ t ∈ ts, t.1 ≠ c) :
    GridAt (upd H c (.lst ((ts.map fun t => V.ref t.1) ++ [.ref p]))) c (ts ++ [(p, ns)]) := by
  refine ⟨by rw [upd_same, List.map_append] <;> rfl, fun t ht => ?_⟩
  rcases List.mem_append.mp ht with h | h
  · rw [upd_ne (hr t h)]
    exact x.row t h
  · rw [List.mem_singleton.mp h, upd_ne n]
    exact hp
theorem GridAt.new {H : Hp} {p q : Addr} {o : HO} {ts : List (Addr × List Int)} (x : GridAt H p ts) (h : H q = none) : GridAt (upd H q o) p ts :=
  ⟨by rw [upd_ne (ne_of_none x.top h)]; exact x.top, fun t ht => by rw [upd_ne (ne_of_none (x.row t ht) h)]; exact x.row t ht⟩
theorem NewG.back {S : Addr → Prop} {H H1 : Hp} {p : Addr} {ts : List (Addr × List Int)} (x : NewG H1 p ts) (k : KP S H H1) (n : ¬ S p) (hn : ∀ t ∈ ts, ¬ S t.1) : NewG H p ts :=
  ⟨k.free n x.top, fun t ht => k.free (hn t ht) (x.row t ht)⟩
/-- new behind what has a deal: new ahead of it -/
theorem NewG.deal {H H1 : Hp} {d l p : Addr} {ts : List (Addr × List Int)} (x : NewG H1 p ts) (k : SB d l H H1) (D : DealAt H1 d l) : NewG H p ts :=
  x.back k.kp (D.free x.top) fun t ht => D.free (x.row t ht)
theorem nk {H : Hp} {a p : Addr} {o u : HO} (h : H a = some o) (hp : H p = none) : upd H p u a = some o := (upd_ne (ne_of_none h hp)).trans h
theorem ff {H : Hp} {p q : Addr} {u : HO} (hp : H p = none) (hq : upd H p u q = none) : H q = none := (KP.new (S := fun _ => False) hp).free id hq
theorem two_ways {c : Prop} [Decidable c] {A X B : Prop} (hB : B) (h : c → B → X) : if c then X else (if false = true then A else B) := by
  by_cases hc : c
  · rw [if_pos hc]
    exact h hc hB
  · rw [if_neg hc]
    exact iteF hB
section
variable {K : PySem.W.Frag} {j : Nat} {te : TE} {σ : St} {H1 : Hp} {D : Addr} {Qd : Hp → Prop} {d l : Addr}
def fG (φ : Nat → List Int → Prop) (H1 : Hp) (D : Addr) (i : Nat) (y : V) (H : Hp) : Prop := ∃ t : Addr × List Int, y = V.ref t.1 ∧ H1 t.1 = none ∧ t.1 ≠ D ∧ H t.1 = some (.lst (t.2.map V.int)) ∧ φ i t.2
theorem fG_end {φ : Nat → List Int → Prop} {ys : List V} {H' : Hp} (hD : H1 D = none) (hf : ∀ i y, ys[i]? = some y → fG φ H1 D i y H') (hD' : H' D = some (.lst ys)) :
    ∃ ts : List (Addr × List Int), ts.length = ys.length ∧ NewG H1 D ts ∧ GridAt H' D ts ∧ ∀ i t, ts[i]? = some t → φ i t.2 := by
  obtain ⟨ts, rfl, ht⟩ := collect (g := fun t : Addr × List Int => V.ref t.1) hf
  have hm : ∀ t ∈ ts, H1 t.1 = none ∧ H' t.1 = some (.lst (t.2.map V.int)) := fun t h => by
    obtain ⟨i, hi⟩ := List.getElem?_of_mem h
    exact ⟨(ht i t hi).1, (ht i t hi).2.2.1⟩
  exact ⟨ts, by rw [List.length_map], ⟨hD, fun t h => (hm t h).1⟩, ⟨hD', fun t h => (hm t h).2⟩, fun i t h => (ht i t h).2.2.2⟩
/-- rows made over a range -/
theorem lcGR {n : Nat} (φ : Nat → List Int → Prop) (hD : H1 D = none) (hI : DealAt H1 d l) (hn : n ≤ 1000000)
    (hs : ∀ i H, i < n → DealAt H d l → SB d l H1 H → ∀ Q : VK, (∀ a r H4, DealAt H4 d l → SB d l H H4 → H a = none → H4 a = some (.lst (r.map V.int)) → φ i r → Q (.ref a) H4) → te ((wipe σ [j]).set j (some (.int (0 + i)))) H Q)
    (hd : ∀ ts H', ts.length = n → (∀ (i : Nat) t, ts[i]? = some t → φ i t.2) → NewG H1 D ts → GridAt H' D ts → DealAt H' d l → SB d l H1 H' → Qd H') :
    ∃ W : Nat → Nat → Hp → Prop, (∃ m, W 0 m (upd H1 D (.lst []))) ∧ ∀ i m H, W i m H →
      ((Itr 0 n).stop i H ∧ Qd H) ∨ ((Itr 0 n).go i H ∧ ∃ Nx : Hp → Prop, (∀ H', Nx H' → ∃ m', m' < m ∧ W (i + 1) m' H') ∧ ∀ x H', (Itr 0 n).yld i H x H' → gName j x (wipe σ [j]) H' fun σ2 H2 => wipe σ2 [j] = wipe σ [j] ∧ tYes σ2 H2 fun b H3 =>
        if b = true then te σ2 H3 fun y H4 => ∃ acc, H4 D = some (.lst acc) ∧ acc.length < sizeLine ∧ Nx (upd H4 D (.lst (acc ++ [y]))) else Nx H3) := by
  have nD : ¬ dl d l D := hI.free hD
  refine lcR (dl d l) (fun H => DealAt H d l) (fG φ H1 D) hD nD hn hI (fun H o x => x.upd nD) (fun i y H H' k ⟨t, e, h1, h2, h3, h4⟩ => ⟨t, e, h1, h2, k.get (fun q => q.elim (hI.free h1) h2) h3, h4⟩) (fun i H acc hi x k1 hDa Q kQ => ?_) (fun ys H' hl hf hD' x k1 => ?_)
  · refine hs i H hi x k1.sb Q fun a r H4 x4 k4 ha ha4 hr => kQ _ _ x4 k4.kp ⟨(a, r), rfl, k1.free (x.free ha) ha, fun e => ?_, ha4, hr⟩
    have e' : a = D := e
    rw [e', hDa] at ha
    cases ha
  · obtain ⟨ts, h1, h2, h3, h4⟩ := fG_end hD hf hD'
    exact hd ts H' (h1.trans hl) h4 h2 h3 x k1.sb
/-- rows made over a list -/
theorem lcGL {a : Addr} {xs : List V} (φ : Nat → List Int → Prop) (hD : H1 D = none) (hI : DealAt H1 d l) (hn : xs.length ≤ 1000000) (ha : ∀ H, SB d l H1 H → SqL K H a xs)
    (hs : ∀ i x H, xs[i]? = some x → DealAt H d l → SB d l H1 H → ∀ Q : VK, (∀ a r H4, DealAt H4 d l → SB d l H H4 → H a = none → H4 a = some (.lst (r.map V.int)) → φ i r → Q (.ref a) H4) → te ((wipe σ [j]).set j (some x)) H Q)
    (hd : ∀ ts H', ts.length = xs.length → (∀ (i : Nat) t, ts[i]? = some t → φ i t.2) → NewG H1 D ts → GridAt H' D ts → DealAt H' d l → SB d l H1 H' → Qd H') :
    ∃ W : Nat → Nat → Hp → Prop, (∃ m, W 0 m (upd H1 D (.lst []))) ∧ ∀ i m H, W i m H →
      ((Itl K a).stop i H ∧ Qd H) ∨ ((Itl K a).go i H ∧ ∃ Nx : Hp → Prop, (∀ H', Nx H' → ∃ m', m' < m ∧ W (i + 1) m' H') ∧ ∀ x H', (Itl K a).yld i H x H' → gName j x (wipe σ [j]) H' fun σ2 H2 => wipe σ2 [j] = wipe σ [j] ∧ tYes σ2 H2 fun b H3 =>
        if b = true then te σ2 H3 fun y H4 => ∃ acc, H4 D = some (.lst acc) ∧ acc.length < sizeLine ∧ Nx (upd H4 D (.lst (acc ++ [y]))) else Nx H3) := by
  have nD : ¬ dl d l D := hI.free hD
  refine lcL (xs := xs) (dl d l) (fun H => DealAt H d l) (fG φ H1 D) hD nD hn hI (fun H o x => x.upd nD) (fun i y H H' k ⟨t, e, h1, h2, h3, h4⟩ => ⟨t, e, h1, h2, k.get (fun q => q.elim (hI.free h1) h2) h3, h4⟩) (fun H k => ha H k.sb) (fun i x0 H acc hi x k1 hDa Q kQ => ?_) (fun ys H' hl hf hD' x k1 => ?_)
  · refine hs i x0 H hi x k1.sb Q fun b r H4 x4 k4 hb hb4 hr => kQ _ _ x4 k4.kp ⟨(b, r), rfl, k1.free (x.free hb) hb, fun e => ?_, hb4, hr⟩
    have e' : b = D := e
    rw [e', hDa] at hb
    cases hb
  · obtain ⟨ts, h1, h2, h3, h4⟩ := fG_end hD hf hD'
    exact hd ts H' (h1.trans hl) h4 h2 h3 x k1.sb
end
section
variable {P : Program} {w : World} {K : PySem.W.Frag} {mg : Str → Option Value} {base : Heap}
theorem ok_machine {f fa fo fc fm fk : Addr} {fd fda fdo fdc fdm fdk : FuncData} (A0 : Df K mg "_law_machine" s_law_machine f fd P_law_machine) (d_law_any : Df K mg "_law_any" s_law_any fa fda P_law_any) (d_law_of : Df K mg "_law_of" s_law_of fo fdo P_law_of) (d_law_mixed : Df K mg "_law_mixed" s_law_mixed fm fdm P_law_mixed)
    (d_law_columns : Df K mg "_law_columns" s_law_columns fc fdc P_law_columns) (d_law_column : Df K mg "_law_column" s_law_column fk fdk P_law_column) (T : Txt mg) : FnOk P w K mg base CX0 4 f fd P_law_machine spMachine := by
  have G_law_any : FnOk P w K mg base CX0 1 fa fda P_law_any spAny := ok_any d_law_any T
  have G_law_of : FnOk P w K mg base CX0 2 fo fdo P_law_of spOf := ok_of d_law_of d_law_any T
  have G_law_columns : FnOk P w K mg base CX0 1 fc fdc P_law_columns spColumns := ok_columns d_law_columns T
  have G_law_column : FnOk P w K mg base CX0 3 fk fdk P_law_column spColumn := ok_column d_law_column d_law_any d_law_mixed T
  refine A0.F.ok sc_law_machine (fun vs H Q E h => ?_) (fun cdv A outer s H vs Q E hr h => ?_)
  · obtain ⟨d, l, most, rfl, _⟩ := h
    rfl
  · obtain ⟨d, l, most, rfl, m0, m1, D, k⟩ := h
    refine ⟨_, (pss_cons (ps_par (i := 2) (j := 3) rfl sc_law_machine.nd rfl rfl (by decide) rfl rfl (pa_cons (pe_call G_law_any (hr.mono (by decide)) rfl d_law_any.g d_law_any.F.kp d_law_any.b .nil pass0 (pa_cons (pv 0) (pa_cons pe_int pa_nil))) (pa_cons (pe_call G_law_of (hr.mono (by decide)) rfl d_law_of.g d_law_of.F.kp d_law_of.b .nil pass0 (pa_cons (pv 0) (pa_cons (pe_lst (pa_cons pe_int (pa_cons pe_int (pa_cons pe_int (pa_cons pe_int (pa_cons pe_int pa_nil)))))) pa_nil))) pa_nil)) rfl)
    (pss_cons (ps_if (PW.pt (pw_and (pt_cmpR op_eq (pv 2) pe_int (nomark _)) (pw_and1 (pt_cmpR op_gt (pv 1) pe_int (nomark _))))) (pss_one (ps_ret (pe_tup (pa_cons pe_int (pa_cons (pe_lst (pa_cons (pe_lst (pa_cons pe_int (pa_cons pe_int pa_nil))) (pa_cons (pe_lst (pa_cons pe_int (pa_cons pe_int pa_nil))) (pa_cons (pe_lst (pa_cons pe_int (pa_cons pe_int pa_nil))) (pa_cons (pe_lst (pa_cons pe_int (pa_cons pe_int pa_nil))) pa_nil))))) pa_nil))))) pss_nil)
    (pss_cons (ps_if (PW.pt (pw_and (pt_cmpR op_eq (pv 2) pe_int (nomark _)) (pw_and1 (pt_cmpR op_gt (pv 1) pe_int (nomark _))))) (pss_cons (ps_asg (pe_tup (pa_cons (pe_call G_law_any (hr.mono (by decide)) rfl d_law_any.g d_law_any.F.kp d_law_any.b .nil pass0 (pa_cons (pv 0) (pa_cons pe_int pa_nil))) (pa_cons (pe_call G_law_of (hr.mono (by decide)) rfl d_law_of.g d_law_of.F.kp d_law_of.b .nil pass0 (pa_cons (pv 0) (pa_cons (pe_lst (pa_cons pe_int (pa_cons pe_int pa_nil))) pa_nil))) pa_nil))) (pg_tup rfl (pgs_cons (pg_name (i := 4) sc_law_machine.nd rfl (Or.inr rfl)) (pgs_cons (pg_name (i := 5) sc_law_machine.nd rfl (Or.inr rfl)) pgs_nil))))
      (pss_one (ps_ret (pe_tup (pa_cons pe_int (pa_cons (pe_lc (own := [("_law_s", 6)]) (g := gName 6) (tt := tYes) rfl sc_law_machine.nd (pi_range1 rfl T.range (pa_cons pe_int pa_nil)) (blkOk_by (N := N_law_machine) (sc := defScope s_law_machine) (by decide +kernel)) (fun _ _ _ _ _ => (pg_name (i := 6) sc_law_machine.nd rfl (Or.inl rfl))) (fun _ _ _ _ _ => pts_nil) (fun _ _ _ _ _ => (pe_lst (pa_cons (pe_op op_add (pe_op op_mul pe_int (pe_op op_fdiv (pv 6) pe_int)) (pv 4)) (pa_cons (pe_ifExp (pt_cmpR op_eq (pe_op op_mod (pv 6) pe_int) pe_int (nomark _)) (pe_op op_mod (pe_callTy call_int1 (by rfl) T.int (by decide +kernel) (pa_cons (pe_op op_add (pv 6) (pv 5)) pa_nil)) pe_int) (pe_op op_mod (pe_callTy call_int1 (by rfl) T.int (by decide +kernel) (pa_cons (pe_op op_add (pv 6) pe_int) pa_nil)) pe_int)) pa_nil))))) pa_nil)))))) pss_nil)
    (pss_cons (ps_par (i := 7) (j := 8) rfl sc_law_machine.nd rfl rfl (by decide) rfl rfl (pa_cons (pe_op op_add pe_int (pe_call G_law_any (hr.mono (by decide)) rfl d_law_any.g d_law_any.F.kp d_law_any.b .nil pass0 (pa_cons (pv 0) (pa_cons (pv 1) pa_nil)))) (pa_cons (pe_lst pa_nil) pa_nil)) rfl)
    (pss_cons (ps_for PassesOwn.never rfl (pi_range1 rfl T.range (pa_cons (pv 3) pa_nil)) (pg_name (i := 9) sc_law_machine.nd rfl (Or.inl rfl))
      (pss_cons (ps_set (i := 10) sc_law_machine.nd rfl (Or.inl rfl) (pe_ifExp (pt_cmpR op_gt (pv 2) pe_int (nomark _)) (pe_call G_law_any (hr.mono (by decide)) rfl d_law_any.g d_law_any.F.kp d_law_any.b .nil pass0 (pa_cons (pv 0) (pa_cons pe_int pa_nil))) (pv 2)))
      (pss_one (ps_expr (pe_bm PySem.F.plainAttrs_list PySem.F.slot_list_append PySem.F.type_list_append mt_append (pv 8) (pa_cons (pe_call G_law_column (hr.mono (by decide)) rfl d_law_column.g d_law_column.F.kp d_law_column.b .nil pass0 (pa_cons (pv 0) (pa_cons (pv 10) (pa_cons (pv 7) pa_nil)))) pa_nil))))))
    (pss_one (ps_ret (pe_tup (pa_cons (pv 3) (pa_cons (pe_call G_law_columns (hr.mono (by decide)) rfl d_law_columns.g d_law_columns.F.kp d_law_columns.b .nil pass0 (pa_cons (pv 8) pa_nil)) pa_nil)))))))))), ?_⟩
    refine ⟨_, rfl, d, l, _, rfl, by decide, by decide, D, fun H1 form D1 S1 f0 f1 => ?_⟩
    refine ⟨_, rfl, by show 5 ≤ sizeLine; decide, fun q hq => ⟨d, l, q, _, rfl, upd_same, D1.free hq, by show 0 < 5; decide, by show 5 ≤ 1000; decide, D1.new hq, fun H2 i cm D2 S2 hi => ?_⟩⟩
    obtain ⟨A, rfl, A0, A3⟩ : ∃ A : Nat, cm = V.int A ∧ 0 < A ∧ A ≤ 3 := by
      match i, hi with
      | 0, hi => exact ⟨1, (Option.some.inj hi).symm, by decide, by decide⟩
      | 1, hi => exact ⟨2, (Option.some.inj hi).symm, by decide, by decide⟩
      | 2, hi => exact ⟨2, (Option.some.inj hi).symm, by decide, by decide⟩
      | 3, hi => exact ⟨2, (Option.some.inj hi).symm, by decide, by decide⟩
      | 4, hi => exact ⟨3, (Option.some.inj hi).symm, by decide, by decide⟩
      | n + 5, hi => cases hi
    have S02 : SB d l H H2 := (S1.trans (SB.new hq)).trans S2
    have fin : ∀ (H' : Hp) (t p : Addr) (A : Nat) (ts : List (Addr × List Int)), DealAt H' d l → SB d l H2 H' → H2 t = none → H' t = some (.tup [.int A, .ref p]) → NewG H2 p ts → GridAt H' p ts → 0 < A → A ≤ 3 → (ts.length : Int) ≤ most → RowsOk A ts → Q (.ref t) H' :=
      fun H' t p A ts x1 x2 x3 x4 x5 x6 x7 x8 x9 x10 => k H' t p A ts x1 (S02.trans x2) (S02.kp.free (D2.free x3) x3) x4 (x5.deal S02 D2) x6 x7 x8 x9 x10
    refine ⟨_, _, rfl, ?_⟩
    refine ⟨_, rfl, rfl, _, rfl, two_ways ?_ fun _ rest => ⟨_, rfl, _, _, rfl, rfl, _, rfl, ite2 (fun h3 => ?_) fun _ => rest⟩⟩
    rotate_left
    · -- (2, [[0, 1], [2, 3], [0, 1], [2, 3]])
      have h3' : (3 : Int) < most := of_decide_eq_true h3
      refine ⟨by show 2 ≤ sizeLine; decide, fun a1 e1 => ⟨by show 2 ≤ sizeLine; decide, fun a2 e2 => ⟨by show 2 ≤ sizeLine; decide, fun a3 e3 => ⟨by show 2 ≤ sizeLine; decide, fun a4 e4 => ⟨by show 4 ≤ sizeLine; decide, fun p ep => ⟨by show 2 ≤ sizeLine; decide, fun t et => ?_⟩⟩⟩⟩⟩⟩
      have n2 := ff e1 e2
      have n3 := ff e1 (ff e2 e3)
      have n4 := ff e1 (ff e2 (ff e3 e4))
      have np := ff e1 (ff e2 (ff e3 (ff e4 ep)))
      have nt := ff e1 (ff e2 (ff e3 (ff e4 (ff ep et))))
      refine fin _ t p 2 [(a1, [0, 1]), (a2, [2, 3]), (a3, [0, 1]), (a4, [2, 3])] ((((((D2.new e1).new e2).new e3).new e4).new ep).new et) ((((((SB.new e1).trans (SB.new e2)).trans (SB.new e3)).trans (SB.new e4)).trans (SB.new ep)).trans (SB.new et)) nt upd_same ⟨np, fun u hu => ?_⟩ ⟨nk upd_same et, fun u hu => ?_⟩ (by decide) (by decide) (by show (4 : Int) ≤ most; omega) ⟨by show 0 < 4; decide, fun u hu => ?_⟩
      · simp only [List.mem_cons, List.not_mem_nil, or_false] at hu
        rcases hu with rfl | rfl | rfl | rfl
        · exact e1
        · exact n2
        · exact n3
        · exact n4
      · simp only [List.mem_cons, List.not_mem_nil, or_false] at hu
        rcases hu with rfl | rfl | rfl | rfl
        · exact nk (nk (nk (nk (nk upd_same e2) e3) e4) ep) et
        · exact nk (nk (nk (nk upd_same e3) e4) ep) et
        · exact nk (nk (nk upd_same e4) ep) et
        · exact nk (nk upd_same ep) et
      · simp only [List.mem_cons, List.not_mem_nil, or_false] at hu
        rcases hu with rfl | rfl | rfl | rfl <;> exact ⟨rfl, fun z hz => by simp only [List.mem_cons, List.not_mem_nil, or_false] at hz; rcases hz with rfl | rfl <;> exact ⟨by decide, by show _ < ((4 : Nat) : Int); decide⟩⟩
    refine ⟨_, rfl, rfl, _, rfl, two_ways ?_ fun _ rest => ⟨_, rfl, _, _, rfl, rfl, _, rfl, ite2 (fun h3 => ?_) fun _ => rest⟩⟩
    rotate_left
    · have h3' : (3 : Int) < most := of_decide_eq_true h3
      refine ⟨_, rfl, d, l, _, rfl, by decide, by decide, D2, fun H3 one D3 S3 o0 o1 => ?_⟩
      refine ⟨_, rfl, by show 2 ≤ sizeLine; decide, fun q2 hq2 => ⟨d, l, q2, _, rfl, upd_same, D3.free hq2, by show 0 < 2; decide, by show 2 ≤ 1000; decide, D3.new hq2, fun H4 i2 ov D4 S4 hi2 => ?_⟩⟩
      obtain ⟨other, rfl⟩ : ∃ other : Int, ov = V.int other := by
        match i2, hi2 with
        | 0, hi => exact ⟨1, (Option.some.inj hi).symm⟩
        | 1, hi => exact ⟨3, (Option.some.inj hi).symm⟩
        | n + 2, hi => cases hi
      refine ⟨by show 2 ≤ sizeLine; decide, fun t0 ht0 => ⟨t0, _, rfl, SqT.of upd_same, rfl, _, _, rfl, _, _, rfl, rfl, ?_⟩⟩
      have D5 := D4.new (o := HO.tup [V.int one, V.int other]) ht0
      have S25 : SB d l H2 _ := ((S3.trans (SB.new hq2)).trans S4).trans (SB.new (o := HO.tup [V.int one, V.int other]) ht0)
      refine ⟨_, rfl, by decide, by decide, fun p ep => lcGR (n := 4) (fun _ r => r.length = 2 ∧ ∀ z ∈ r, 0 ≤ z ∧ z < (4 : Int)) ep D5 (by decide) (fun i H6 hi x6 _ Q6 kQ => ?_) (fun ts H' hl hz hN hG x k1 => ?_)⟩
      · have i4 : (0 : Int) + (i : Int) < 4 := by omega
        have fin6 : ∀ z1 z2 : Int, (0 ≤ z1 ∧ z1 < 4) → (0 ≤ z2 ∧ z2 < 4) → ∀ a, H6 a = none → Q6 (.ref a) (upd H6 a (.lst [.int z1, .int z2])) := fun z1 z2 b1 b2 a ha => by
          refine kQ a [z1, z2] _ (x6.new ha) (SB.new ha) ha upd_same ⟨rfl, fun z hz => ?_⟩
          simp only [List.mem_cons, List.not_mem_nil, or_false] at hz
          rcases hz with rfl | rfl
          · exact b1
          · exact b2
        refine ⟨_, rfl, _, _, rfl, rfl, ⟨by decide, by decide⟩, _, _, rfl, rfl, .inl ⟨by decide, by decide⟩, _, rfl, _, _, rfl, rfl, ?_⟩
        refine ⟨_, rfl, _, _, rfl, rfl, (by show (0 : Int) < 2; decide), rfl, _, rfl, ite2 (fun _ => ?_) (fun _ => ?_)⟩
        · exact ⟨_, rfl, _, rfl, _, _, rfl, rfl, .inl ⟨_, rfl, _, _, rfl, rfl, (by show (0 : Int) < 4; decide), by show 2 ≤ sizeLine; decide, fin6 _ _ ⟨by omega, by omega⟩ ⟨Int.emod_nonneg _ (by decide), Int.emod_lt_of_pos _ (by decide)⟩⟩⟩
        · exact ⟨_, rfl, _, _, rfl, rfl, .inl ⟨_, rfl, _, _, rfl, rfl, (by show (0 : Int) < 4; decide), by show 2 ≤ sizeLine; decide, fin6 _ _ ⟨by omega, by omega⟩ ⟨Int.emod_nonneg _ (by decide), Int.emod_lt_of_pos _ (by decide)⟩⟩⟩
      · refine ⟨by show 2 ≤ sizeLine; decide, fun t et => ?_⟩
        have nt : ¬ dl d l t := x.free et
        have D4f := D4
        refine fin _ t p 2 ts (x.new et) ((S25.trans k1).trans (SB.new et)) ?_ upd_same ?_ (hG.new et) (by decide) (by decide) (by omega) ⟨by omega, fun u hu => ?_⟩
        · exact (S25.trans k1).kp.free nt et
        · exact hN.deal S25 D5
        · obtain ⟨i, hi⟩ := List.getElem?_of_mem hu
          have := hz i u hi
          rw [hl]
          exact this
    · -- many columns
      refine ⟨_, rfl, _, rfl, d, l, _, rfl, m0, by omega, D2, fun H3 ma D3 S3 ma0 ma1 => ?_⟩
      have S23 : SB d l H2 H3 := S3
      refine ⟨_, _, rfl, rfl, ?_⟩
      refine ⟨Nat.zero_le _, fun c hc => ⟨_, _, rfl, ?_⟩⟩
      obtain ⟨many, em, q0, q1⟩ : ∃ many : Nat, (1 + ma : Int) = (many : Int) ∧ 0 < many ∧ (many : Int) ≤ most := ⟨(1 + ma).toNat, by omega, by omega, by omega⟩
      have c0 : H2 c = none := S3.kp.free (D3.free hc) hc
      refine ⟨_, rfl, (A : Int), rfl, by omega, by omega, ?_⟩
      rw [show ((A : Int)).toNat = A by omega]
      refine for_range (fun i σ H4 => ∃ (v9 v10 : Option V) (ts : List (Addr × List Int)), σ = [some (.ref d), some (.int most), some (.int form), some (.int (A : Int)), none, none, none, some (.int (1 + ma)), some (.ref c), v9, v10] ∧ DealAt H4 d l ∧ SB d l H2 H4 ∧ GridAt H4 c ts ∧ (∀ t ∈ ts, H2 t.1 = none ∧ t.1 ≠ c) ∧ ts.length = i ∧ ∀ t ∈ ts, t.2.length = many ∧ ∀ z ∈ t.2, 0 ≤ z ∧ z < (many : Int))
        ⟨none, none, [], rfl, D3.new hc, S3.trans (SB.new hc), ⟨upd_same, fun t ht => nomatch ht⟩, (fun t ht => nomatch ht), rfl, (fun t ht => nomatch ht)⟩ ?_ ?_
      · rintro i σ H4 hi ⟨v9, v10, ts, rfl, D4, S4, G4, N4, hl4, R4⟩
        have nc : ¬ dl d l c := D2.free c0
        have nts : ∀ t ∈ ts, ¬ dl d l t.1 := fun t ht => D2.free (N4 t ht).1
        have body : ∀ (H5 : Hp) (kind : Int), DealAt H5 d l → SB d l H4 H5 → (tDrop (tBM K "list" rAppend (tVar 8) (tCons (tCall spColumn [] E0 (tCons (tVar 0) (tCons (tVar 10) (tCons (tVar 7) tNil)))) tNil)))
            { nx := fun σ H4 => ∃ (v9 v10 : Option V) (ts : List (Addr × List Int)), σ = [some (.ref d), some (.int most), some (.int form), some (.int (A : Int)), none, none, none, some (.int (1 + ma)), some (.ref c), v9, v10] ∧ DealAt H4 d l ∧ SB d l H2 H4 ∧ GridAt H4 c ts ∧ (∀ t ∈ ts, H2 t.1 = none ∧ t.1 ≠ c) ∧ ts.length = i + 1 ∧ ∀ t ∈ ts, t.2.length = many ∧ ∀ z ∈ t.2, 0 ≤ z ∧ z < (many : Int),
              rt := Q } [some (.ref d), some (.int most), some (.int form), some (.int (A : Int)), none, none, none, some (.int (1 + ma)), some (.ref c), some (.int (0 + (i : Int))), some (.int kind)] H5 := by
          intro H5 kind D5 S5
          have G5 : GridAt H5 c ts := G4.kp S5.kp nc nts
          refine ⟨_, rfl, .inl ⟨rfl, _, SqL.of G5.top⟩, _, rfl, _, rfl, _, rfl, d, l, kind, 1 + ma, rfl, by omega, by omega, D5, fun H6 p ns D6 S6 hp6 hp6' hn6 hr6 => ?_⟩
          have G6 : GridAt H6 c ts := G5.kp S6.kp nc nts
          have S26 := (S4.trans S5).trans S6
          have np : H2 p = none := (S4.trans S5).kp.free (D5.free hp6) hp6
          have npc : p ≠ c := fun e => by
            rw [e, G5.top] at hp6
            cases hp6
          refine ⟨c, _, _, rfl, rfl, G6.top, ?_, _, _, ts ++ [(p, ns)], rfl, D6.upd nc, (S26.kp.mut c0).sb, G6.snoc hp6' npc fun t ht => (N4 t ht).2, fun t ht => ?_, by rw [List.length_append, hl4]; rfl, fun t ht => ?_⟩
          · rw [List.length_map]
            exact Nat.lt_of_le_of_lt (by omega : _ ≤ 1000) (by decide)
          · rcases List.mem_append.mp ht with h | h
            · exact N4 t h
            · rw [List.mem_singleton.mp h]
              exact ⟨np, npc⟩
          · rcases List.mem_append.mp ht with h | h
            · exact R4 t h
            · rw [List.mem_singleton.mp h]
              refine ⟨by show ns.length = many; omega, fun z hz => ?_⟩
              have := hr6 z hz
              omega
        refine ⟨_, rfl, _, _, rfl, rfl, _, rfl, ite2 (fun _ => ?_) (fun _ => ?_)⟩
        · exact ⟨_, rfl, d, l, _, rfl, by decide, by decide, D4, fun H5 kind D5 S5 _ _ => body H5 kind D5 S5⟩
        · exact ⟨_, rfl, body H4 form D4 (SB.refl _ _ _)⟩
      · rintro σ H4 ⟨v9, v10, ts, rfl, D4, S4, G4, N4, hl4, R4⟩
        refine ⟨_, rfl, _, rfl, c, ts, many, rfl, G4, by omega, by omega, by omega, fun t ht => (R4 t ht).1, fun H5 p us S5 N5 G5 hl5 R5 => ⟨by show 2 ≤ sizeLine; decide, fun t ht => ?_⟩⟩
        have S45 : SB d l H4 H5 := (KP.same (S := dl d l) S5).sb
        have D5 : DealAt H5 d l := by
          obtain ⟨bs, b, y⟩ := D4
          exact ⟨bs, b, S5 _ _ y.hd, S5 _ _ y.hl, y.pos, y.len, y.b0, y.b1⟩
        refine fin _ t p A us (D5.new ht) ((S4.trans S45).trans (SB.new ht)) ((S4.trans S45).kp.free (D5.free ht) ht) upd_same (N5.deal S4 D4) (G5.new ht) A0 A3 (by omega) ⟨by omega, fun u hu => ?_⟩
        have hu5 := R5 u hu
        refine ⟨by omega, fun z hz => ?_⟩
        obtain ⟨t, ht, hz'⟩ := hu5.2 z hz
        have := (R4 t ht).2 z hz'
        omega
end
end Lk

set_option Elab.async false
set_option maxRecDepth 100000
set_option maxHeartbeats 1000000
namespace Lk
open PySem L2
abbrev s_law_draw : Stmt := top 25
abbrev N_law_draw : List Str := ["_law_script", "_law_salt", "_law_cells", "_law_cell", "_law_blend"]
abbrev P_law_draw : List Str := ["_law_script", "_law_salt"]
theorem sc_law_draw : FnScope N_law_draw P_law_draw (defScope s_law_draw) := ⟨rfl, rfl, rfl, by decide +kernel, rfl, by decide +kernel, by decide +kernel⟩
abbrev s_law_wide : Stmt := top 38
abbrev N_law_wide : List Str := ["_law_deal", "_law_most", "_law_commands", "_law_steps", "_law_more", "_law_row_here"]
abbrev P_law_wide : List Str := ["_law_deal", "_law_most"]
theorem sc_law_wide : FnScope N_law_wide P_law_wide (defScope s_law_wide) := ⟨rfl, rfl, rfl, by decide +kernel, rfl, by decide +kernel, by decide +kernel⟩
/-- a deal is made of the script -/
def spDraw (K : PySem.W.Frag) : Sp := fun vs H Q _ => ∃ (a : Addr) (ns : List Int) (salt : Int), vs = [.ref a, .int salt] ∧ SqL K H a (ns.map V.int) ∧ ns.length ≤ 63 ∧ 0 ≤ salt ∧ salt ≤ 1000 ∧
  ∀ (H' : Hp) (d l : Addr), DealAt H' d l → Same H H' → H d = none → H l = none → Q (.ref d) H'
/-- a drawn machine, with up to five commands -/
def spWide : Sp := fun vs H Q _ => ∃ (d l : Addr) (most : Int), vs = [.ref d, .int most] ∧ 0 < most ∧ most ≤ 100 ∧ DealAt H d l ∧
  ∀ (H' : Hp) (t p : Addr) (A : Nat) (ts : List (Addr × List Int)), DealAt H' d l → SB d l H H' → H t = none → H' t = some (.tup [.int A, .ref p]) → NewG H p ts → GridAt H' p ts → 0 < A → A ≤ 5 → (ts.length : Int) ≤ most → RowsOk A ts → Q (.ref t) H'
theorem cut_ints (ns : List Int) (lo hi : Option Int) : ∃ ms : List Int, cutV (ns.map V.int) lo hi = ms.map V.int ∧ ms.length ≤ ns.length := by
  refine ⟨(ns.drop (HT.sIx (ns.map V.int).length 0 lo)).take (HT.sIx (ns.map V.int).length (ns.map V.int).length hi - HT.sIx (ns.map V.int).length 0 lo), ?_, ?_⟩
  · unfold cutV
    rw [← List.map_drop, ← List.map_take]
  · rw [List.length_take, List.length_drop]
    omega
theorem cut48 (ns : List Int) : ∃ ms : List Int, cutV (ns.map V.int) none (some 48) = ms.map V.int ∧ ms.length ≤ 48 := by
  refine ⟨(ns.drop (HT.sIx (ns.map V.int).length 0 none)).take (HT.sIx (ns.map V.int).length (ns.map V.int).length (some 48) - HT.sIx (ns.map V.int).length 0 none), ?_, ?_⟩
  · unfold cutV
    rw [← List.map_drop, ← List.map_take]
  · rw [List.length_take]
    have e : HT.sIx (ns.map V.int).length (ns.map V.int).length (some 48) ≤ 48 := by
      show (if (48 : Int) < 0 then ((48 : Int) + (((ns.map V.int).length : Nat) : Int)).toNat else min (48 : Int).toNat (ns.map V.int).length) ≤ 48
      rw [if_neg (by decide)]
      exact Nat.min_le_left _ _
    omega
section
variable {P : Program} {w : World} {K : PySem.W.Frag} {mg : Str → Option Value} {base : Heap}
theorem ok_draw {f : Addr} {fd : FuncData} (A0 : Df K mg "_law_draw" s_law_draw f fd P_law_draw) (T : Txt mg) : FnOk P w K mg base CX0 1 f fd P_law_draw (spDraw K) := by
  refine A0.F.ok sc_law_draw (fun vs H Q E h => ?_) (fun cdv A outer s H vs Q E hr h => ?_)
  · obtain ⟨a, ns, salt, rfl, _⟩ := h
    rfl
  · obtain ⟨a, ns, salt, rfl, hS, hl, s0, s1, k⟩ := h
    refine ⟨_, (pss_cons (ps_setLc (i := 2) (own := [("_law_cell", 3)]) (g := gName 3) (tt := tYes) rfl sc_law_draw.nd rfl rfl (sw_true rfl rfl rfl (by decide +kernel)) (pi_list (pe_slice sl_list (pv 0) po_none (po_some pe_int))) (blkOk_by (N := N_law_draw) (sc := defScope s_law_draw) (by decide +kernel)) (fun _ _ _ _ _ => (pg_name (i := 3) sc_law_draw.nd rfl (Or.inl rfl))) (fun _ _ _ _ _ => pts_nil) (fun _ _ _ _ _ => (pe_callB call_abs (by rfl) T.abs (by decide +kernel) (pa_cons (pe_callTy call_int1 (by rfl) T.int (by decide +kernel) (pa_cons (pv 3) pa_nil)) pa_nil))))
    (pss_cons (ps_set (i := 4) sc_law_draw.nd rfl (Or.inl rfl) (pe_op op_add pe_int (pe_op op_mul pe_int (pv 1))))
    (pss_cons (ps_for PassesOwn.never rfl (pi_list (pv 2)) (pg_name (i := 3) sc_law_draw.nd rfl (Or.inl rfl))
      (pss_one (ps_set (i := 4) sc_law_draw.nd rfl (Or.inl rfl) (pe_op op_mod (pe_callTy call_int1 (by rfl) T.int (by decide +kernel) (pa_cons (pe_op op_add (pe_op op_add (pe_op op_mul (pv 4) pe_int) (pe_op op_mod (pv 3) pe_int)) pe_int) pa_nil)) pe_int))))
    (pss_one (ps_ret (pe_lst (pa_cons (pe_revL (pe_lc (own := [("_law_cell", 3)]) (g := gName 3) rfl sc_law_draw.nd (pi_list (pv 2)) (blkOk_by (N := N_law_draw) (sc := defScope s_law_draw) (by decide +kernel)) (fun _ _ _ _ _ => (pg_name (i := 3) sc_law_draw.nd rfl (Or.inl rfl))) (fun _ _ _ _ _ => (pts_one (pt_cmpR op_ge (pv 3) (pe_op op_pow pe_int pe_int) (nomark _)))) (fun _ _ _ _ _ => (pv 3)))) (pa_cons (pv 4) pa_nil)))))))), ?_⟩
    obtain ⟨ms, em, hm⟩ := cut48 ns
    refine ⟨_, rfl, _, rfl, a, _, rfl, hS, fun p hp => ⟨p, rfl, ⟨_, SqL.of upd_same⟩, fun D hD => ?_⟩⟩
    rw [em] at hD ⊢
    have hpD : ∀ {o}, upd (upd H p (HO.lst (ms.map V.int))) D o p = some (.lst (ms.map V.int)) := nk upd_same hD
    refine lcL (xs := ms.map V.int) (fun _ => False) (fun _ => True) (fun _ y _ => ∃ z : Int, y = V.int z ∧ 0 ≤ z) hD id (by rw [List.length_map]; omega) trivial (fun _ _ _ => trivial) (fun _ _ _ _ _ x => x) (fun H2 kp => SqL.of (kp.get id upd_same)) (fun j x H2 acc hj _ k2 _ Q2 kQ => ?_) (fun ys H2 hl2 hf hD2 _ k2 => ?_)
    · obtain ⟨z, rfl⟩ : ∃ z, x = V.int z := by
        obtain ⟨z, _, e⟩ := List.mem_map.mp (mem_of_get hj)
        exact ⟨z, e.symm⟩
      exact ⟨_, rfl, .inl ⟨_, rfl, _, rfl, kQ _ _ trivial (KP.refl _ _) ⟨_, rfl, by split <;> omega⟩⟩⟩
    obtain ⟨cs, rfl, hc⟩ := collect (g := V.int) hf
    have hcs : cs.length ≤ 48 := by
      rw [List.length_map, List.length_map] at hl2
      omega
    have c0 : ∀ z ∈ cs, 0 ≤ z := all_of_get hc
    have S2 : Same H H2 := ((KP.new (S := fun _ => False) hp).trans k2).toSame
    have nD : H D = none := ff hp hD
    refine ⟨_, rfl, _, _, rfl, rfl, .inl ⟨by decide, by decide⟩, _, _, rfl, rfl, ?_⟩
    refine ⟨_, rfl, D, rfl, ⟨_, SqL.of hD2⟩, for_list (K := K) (a := D) (xs := cs.map V.int) (fun i σ H3 => H3 = H2 ∧ ∃ (b : Int) (v : Option V), σ = [some (.ref a), some (.int salt), some (.ref D), v, some (.int b)] ∧ 0 ≤ b ∧ b < 2147483647) ⟨rfl, _, none, rfl, by omega, by omega⟩ (fun i σ H3 _ x => by rw [x.1]; exact SqL.of hD2) ?_ ?_⟩
    · rintro i x σ H3 hi ⟨rfl, b, v, rfl, b0, b1⟩
      obtain ⟨z, rfl⟩ : ∃ z, x = V.int z := by
        obtain ⟨z, _, e⟩ := List.mem_map.mp (mem_of_get hi)
        exact ⟨z, e.symm⟩
      refine ⟨_, rfl, _, _, rfl, rfl, .inr ⟨by decide, by decide⟩, _, rfl, _, _, rfl, rfl, (by show (0 : Int) < 2147483549; decide), _, _, rfl, rfl, _, _, rfl, rfl, .inl ⟨_, rfl, _, _, rfl, rfl, (by show (0 : Int) < 2147483647; decide), ?_⟩⟩
      exact ⟨rfl, _, _, rfl, Int.emod_nonneg _ (by decide), Int.emod_lt_of_pos _ (by decide)⟩
    · rintro σ H3 ⟨rfl, b, v, rfl, b0, b1⟩
      refine ⟨_, rfl, D, rfl, ⟨_, SqL.of hD2⟩, fun q hq => ?_⟩
      refine lc_list (xs := cs.map V.int) (fun i H4 => Same H3 H4 ∧ ∃ gs : List Int, H4 q = some (.lst (gs.map V.int)) ∧ gs.length ≤ i ∧ ∀ z ∈ gs, 0 ≤ z) ⟨(KP.new (S := fun _ => False) hq).toSame, [], upd_same, Nat.le_refl _, fun z hz => nomatch hz⟩ (fun i H4 _ x => SqL.of (x.1 _ _ hD2)) (fun i x H4 hi x4 => ?_) (fun H4 x4 => ?_)
      · obtain ⟨z, hz, rfl⟩ := List.mem_map.mp (mem_of_get hi)
        obtain ⟨S4, gs, e4, l4, p4⟩ := x4
        have hi48 : i < 48 := by
          have := (List.getElem?_eq_some_iff.mp hi).1
          rw [List.length_map] at this
          omega
        refine ⟨wipe1 _ _ _, _, rfl, _, _, rfl, rfl, ⟨by decide, by decide, by decide⟩, _, _, rfl, rfl, _, rfl, ite2 (fun _ => ?_) (fun _ => ⟨S4, gs, e4, by omega, p4⟩)⟩
        refine ⟨_, rfl, _, e4, ?_, ?_, gs ++ [z], ?_, ?_, ?_⟩
        · rw [List.length_map]
          exact Nat.lt_of_le_of_lt (by omega : _ ≤ 48) (by decide)
        · exact ((KP.same (S := fun _ => False) S4).mut hq).toSame
        · rw [upd_same, List.map_append]
          rfl
        · rw [List.length_append]
          simp only [List.length_cons, List.length_nil]
          omega
        · intro y hy
          rcases List.mem_append.mp hy with h | h
          · exact p4 y h
          · rw [List.mem_singleton.mp h]
            exact c0 z hz
      · obtain ⟨S4, gs, e4, l4, p4⟩ := x4
        rw [List.length_map] at l4
        refine ⟨q, _, rfl, SqL.of e4, fun l hl => ⟨_, rfl, by show 2 ≤ sizeLine; decide, fun d hd => ?_⟩⟩
        rw [← List.map_reverse] at hd ⊢
        have nl : H l = none := (S2.trans S4).free hl
        refine k _ d l ⟨gs.reverse, b, ⟨upd_same, nk upd_same hd, fun y hy => p4 y (List.mem_reverse.mp hy), by rw [List.length_reverse]; omega, b0, b1⟩⟩ ?_ ((S2.trans S4).free (ff hl hd)) nl
        exact (((KP.same (S := fun _ => False) (S2.trans S4)).trans (KP.new hl)).trans (KP.new hd)).toSame
end
end Lk

set_option Elab.async false
set_option maxRecDepth 100000
set_option maxHeartbeats 1000000
namespace Lk
open PySem L2
def rLs (K : PySem.W.Frag) : List V → Hp → VK → Prop := fun xs H Q => ∃ p ys, xs = [.ref p] ∧ (SqL K H p ys ∨ SqT K H p ys) ∧ ∀ l, H l = none → Q (.ref l) (upd H l (.lst ys))
def rLn (K : PySem.W.Frag) : List V → Hp → VK → Prop := fun xs H Q => ∃ p ys, xs = [.ref p] ∧ (SqL K H p ys ∨ SqT K H p ys) ∧ Q (.int ys.length) H
theorem cases_list {α : Type} {xs : List α} {i : Nat} {x : α} (h : xs[i]? = some x) : i < xs.length := (List.getElem?_eq_some_iff.mp h).1
theorem grid_get {ts : List (Addr × List Int)} {i : Nat} {x : V} (h : (ts.map fun t => V.ref t.1)[i]? = some x) : ∃ t ∈ ts, x = V.ref t.1 := by
  obtain ⟨t, ht, e⟩ := List.mem_map.mp (mem_of_get h)
  exact ⟨t, ht, e.symm⟩
section
variable {P : Program} {w : World} {K : PySem.W.Frag} {mg : Str → Option Value} {base : Heap}
theorem ok_wide {f fa fM : Addr} {fd fda fdM : FuncData} (A0 : Df K mg "_law_wide" s_law_wide f fd P_law_wide) (d_law_any : Df K mg "_law_any" s_law_any fa fda P_law_any) (d_law_machine : Df K mg "_law_machine" s_law_machine fM fdM P_law_machine) (GM : FnOk P w K mg base CX0 4 fM fdM P_law_machine spMachine) (T : Txt mg) : FnOk P w K mg base CX0 5 f fd P_law_wide spWide := by
  have G_law_any : FnOk P w K mg base CX0 1 fa fda P_law_any spAny := ok_any d_law_any T
  have G_law_machine := GM
  refine A0.F.ok sc_law_wide (fun vs H Q E h => ?_) (fun cdv A outer s H vs Q E hr h => ?_)
  · obtain ⟨d, l, most, rfl, _⟩ := h
    rfl
  · obtain ⟨d, l, most, rfl, m0, m1, D, k⟩ := h
    refine ⟨_, (pss_cons (ps_asg (pe_call G_law_machine (hr.mono (by decide)) rfl d_law_machine.g d_law_machine.F.kp d_law_machine.b .nil pass0 (pa_cons (pv 0) (pa_cons (pv 1) pa_nil))) (pg_tup rfl (pgs_cons (pg_name (i := 2) sc_law_wide.nd rfl (Or.inr rfl)) (pgs_cons (pg_name (i := 3) sc_law_wide.nd rfl (Or.inr rfl)) pgs_nil))))
    (pss_cons (ps_if (pt_cmpR op_gt (pe_call G_law_any (hr.mono (by decide)) rfl d_law_any.g d_law_any.F.kp d_law_any.b .nil pass0 (pa_cons (pv 0) (pa_cons pe_int pa_nil))) pe_int (nomark _)) (pss_one (ps_ret (pe_tup (pa_cons (pv 2) (pa_cons (pv 3) pa_nil))))) pss_nil)
    (pss_one (ps_ret (pe_tup (pa_cons pe_int (pa_cons (pe_lc (own := [("_law_row_here", 5)]) (g := gName 5) (tt := tYes)
        (te := tOp rCat (tCB (rLs K) (tCons (tVar 5) tNil)) (tLc (iRng1 (tCons (tOp (rI0 fun i j => .int (i - j)) (tC (.int 5)) (tVar 2)) tNil)) (gName 4) tYes (tCall spAny [] E0 (tCons (tVar 0) (tCons (tCB (rLn K) (tCons (tVar 3) tNil)) tNil))) [4]))
        rfl sc_law_wide.nd (pi_list (pv 3)) (blkOk_by (N := N_law_wide) (sc := defScope s_law_wide) (by decide +kernel)) (fun _ _ _ _ _ => (pg_name (i := 5) sc_law_wide.nd rfl (Or.inl rfl))) (fun _ _ _ _ _ => pts_nil)
        (fun _ _ _ _ _ => (pe_op op_cat (pe_callTy call_list_of (by rfl) T.list (by decide +kernel) (pa_cons (pv 5) pa_nil)) (pe_lc (own := [("_law_more", 4)]) (wi := iRng1 (tCons (tOp (rI0 fun i j => .int (i - j)) (tC (.int 5)) (tVar 2)) tNil)) (g := gName 4) (tt := tYes) (te := tCall spAny [] E0 (tCons (tVar 0) (tCons (tCB (rLn K) (tCons (tVar 3) tNil)) tNil)))
          rfl sc_law_wide.nd (pi_range1 rfl T.range (pa_cons (pe_op op_sub pe_int (pv 2)) pa_nil)) (blkOk_by (N := N_law_wide) (sc := { kind := .function, names := [(".0", .local), ("_law_row_here", .local), ("list", .globalImplicit), ("range", .globalImplicit), ("_law_commands", .cell), ("_law_deal", .cell), ("_law_steps", .cell)], isGenerator := false, isCoroutine := false }) (by decide +kernel)) (fun _ _ _ _ _ => (pg_name (i := 4) sc_law_wide.nd rfl (Or.inl rfl))) (fun _ _ _ _ _ => pts_nil)
          (fun _ _ _ _ _ => (pe_call G_law_any (hr.mono (by decide)) rfl d_law_any.g d_law_any.F.kp d_law_any.b .nil pass0 (pa_cons (pv 0) (pa_cons (pe_callB call_len_seq (by rfl) T.len PySem.boot_len (pa_cons (pv 3) pa_nil)) pa_nil)))))))) pa_nil))))))), ?_⟩
    refine ⟨_, rfl, _, rfl, d, l, most, rfl, m0, m1, D, fun H1 t p A ts D1 S1 t0 ht N1 G1 A0 A3 hm R1 => ?_⟩
    refine ⟨t, _, rfl, SqT.of ht, rfl, _, _, rfl, _, _, rfl, rfl, ?_⟩
    refine ⟨_, rfl, d, l, _, rfl, by decide, by decide, D1, fun H2 r D2 S2 r0 r1 => ⟨_, _, rfl, rfl, _, rfl, ite2 (fun _ => ?_) (fun _ => ?_)⟩⟩
    · have nt : ∀ u ∈ ts, ¬ dl d l u.1 := fun u hu => D.free (N1.row u hu)
      have G2 := G1.kp S2.kp (D.free N1.top) nt
      refine ⟨_, rfl, _, rfl, by show 2 ≤ sizeLine; decide, fun t2 ht2 => ?_⟩
      exact k _ t2 p A ts (D2.new ht2) ((S1.trans S2).trans (SB.new ht2)) ((S1.trans S2).kp.free (D2.free ht2) ht2) upd_same N1 (G2.new ht2) A0 (by omega) hm R1
    · have nt : ∀ u ∈ ts, ¬ dl d l u.1 := fun u hu => D.free (N1.row u hu)
      have np := D.free N1.top
      have G2 := G1.kp S2.kp np nt
      have hlen : ts.length ≤ 100 := by omega
      have hpos := R1.pos
      refine ⟨_, rfl, p, rfl, ⟨_, SqL.of G2.top⟩, fun q hq => ?_⟩
      refine lcGL (K := K) (xs := ts.map fun t => V.ref t.1) (fun _ r => r.length = 5 ∧ ∀ z ∈ r, 0 ≤ z ∧ z < (ts.length : Int)) hq D2 (by rw [List.length_map]; omega) (fun H3 k3 => SqL.of (k3.kp.get np G2.top)) (fun i x H3 hi x3 k3 Q3 kQ => ?_) (fun us H3 hl hz hN hG x3 k3 => ?_)
      · obtain ⟨u, hu, rfl⟩ := grid_get hi
        have G3 := G2.kp k3.kp np nt
        obtain ⟨ru, zu⟩ := R1.row u hu
        refine ⟨_, rfl, u.1, _, rfl, .inl (SqL.of (G3.row u hu)), fun q1 h1 => ?_⟩
        refine ⟨_, rfl, _, _, rfl, rfl, _, rfl, by omega, by omega, fun q2 h2 => ?_⟩
        refine lcI (fun _ z => 0 ≤ z ∧ z < (ts.length : Int)) h2 (x3.new h1) (by omega) (fun i H4 hi4 x4 k4 Q4 kQ4 => ?_) (fun ns H4 hl4 hz4 hq4 x4 k4 => ?_)
        · have G4 := (G3.new (o := HO.lst (u.2.map V.int)) h1).kp k4.kp np nt
          refine ⟨_, rfl, _, rfl, p, _, rfl, .inl (SqL.of G4.top), d, l, _, rfl, by rw [List.length_map]; omega, by rw [List.length_map]; omega, x4, fun H5 z x5 k5 z0 z1 => kQ4 _ _ x5 k5 ?_⟩
          rw [List.length_map] at z1
          exact ⟨z0, z1⟩
        · have n1 : ¬ dl d l q1 := x3.free h1
          have e1 : H4 q1 = some (.lst (u.2.map V.int)) := k4.kp.get n1 upd_same
          refine ⟨q1, q2, _, _, rfl, rfl, e1, hq4, ?_, fun q3 h3 => ?_⟩
          · rw [List.length_map, List.length_map]
            exact Nat.le_trans (by omega : _ ≤ 1000) (by decide)
          · have hx := (SB.new (d := d) (l := l) h1).trans k4
            refine kQ q3 (u.2 ++ ns) _ (x4.new h3) (hx.trans (SB.new h3)) (hx.kp.free (x4.free h3) h3) (by rw [upd_same, List.map_append]) ⟨by rw [List.length_append]; omega, fun z hz' => ?_⟩
            rcases List.mem_append.mp hz' with h | h
            · exact zu z h
            · exact all_of_get hz4 z h
      · refine ⟨by show 2 ≤ sizeLine; decide, fun t2 ht2 => ?_⟩
        rw [List.length_map] at hl
        refine k _ t2 q 5 us (x3.new ht2) (((S1.trans S2).trans k3).trans (SB.new ht2)) (((S1.trans S2).trans k3).kp.free (x3.free ht2) ht2) upd_same (hN.deal (S1.trans S2) D2) (hG.new ht2) (by decide) (by decide) (by omega) ⟨by omega, fun u hu => ?_⟩
        obtain ⟨i, hi⟩ := List.getElem?_of_mem hu
        rw [hl]
        exact hz i u hi
end
end Lk

set_option Elab.async false
set_option maxRecDepth 100000
set_option maxHeartbeats 1000000
namespace Lk
open PySem L2
theorem take_next {α : Type} : ∀ {xs : List α} {i : Nat} {x : α}, xs[i]? = some x → xs.take (i + 1) = xs.take i ++ [x]
  | [], _, _, h => by simp at h
  | y :: xs, 0, x, h => by
    have e : y = x := Option.some.inj h
    rw [e]
    rfl
  | y :: xs, i + 1, x, h => by
    show y :: xs.take (i + 1) = y :: (xs.take i ++ [x])
    rw [take_next (xs := xs) (i := i) h]
theorem sameT {K : PySem.W.Frag} {H H' : Hp} {a : Addr} {xs : List V} (e : Same H H') (h : SqT K H a xs) : SqT K H' a xs := by
  rcases h with (h | ⟨o, h⟩) | h
  · exact .inl (.inl (e _ _ h))
  · exact .inl (.inr ⟨o, e _ _ h⟩)
  · exact .inr h
section
variable {K : PySem.W.Frag} {j : Nat} {te : TE} {σ : St} {H1 : Hp} {D : Addr} {Qd : Hp → Prop}

theorem lcPL {a : Addr} {xs : List V} (F : V → V) (hD : H1 D = none) (hn : xs.length ≤ 1000000) (ha : SqL K H1 a xs)
    (hs : ∀ x ∈ xs, ∀ H, Same H1 H → ∀ Q : VK, (∀ H4, Same H H4 → Q (F x) H4) → te ((wipe σ [j]).set j (some x)) H Q)
    (hd : ∀ H', H' D = some (.lst (xs.map F)) → Same H1 H' → Qd H') :
    ∃ W : Nat → Nat → Hp → Prop, (∃ m, W 0 m (upd H1 D (.lst []))) ∧ ∀ i m H, W i m H →
      ((Itl K a).stop i H ∧ Qd H) ∨ ((Itl K a).go i H ∧ ∃ Nx : Hp → Prop, (∀ H', Nx H' → ∃ m', m' < m ∧ W (i + 1) m' H') ∧ ∀ x H', (Itl K a).yld i H x H' → gName j x (wipe σ [j]) H' fun σ2 H2 => wipe σ2 [j] = wipe σ [j] ∧ tYes σ2 H2 fun b H3 =>
        if b = true then te σ2 H3 fun y H4 => ∃ acc, H4 D = some (.lst acc) ∧ acc.length < sizeLine ∧ Nx (upd H4 D (.lst (acc ++ [y]))) else Nx H3) := by
  refine lc_list (xs := xs) (fun i H => Same H1 H ∧ H D = some (.lst ((xs.take i).map F))) ⟨(KP.new (S := fun _ => False) hD).toSame, upd_same⟩ (fun i H _ x => Same.seq x.1 ha) (fun i x0 H hi x => ?_) (fun H x => ?_)
  · refine ⟨wipe1 _ _ _, iteT (B := Same H1 H ∧ H D = some (.lst ((xs.take (i + 1)).map F))) ?_⟩
    refine hs x0 (mem_of_get hi) H x.1 _ fun H4 S4 => ⟨_, S4 _ _ x.2, ?_, ((KP.same (S := fun _ => False) (x.1.trans S4)).mut hD).toSame, ?_⟩
    · rw [List.length_map, List.length_take]
      exact Nat.lt_of_le_of_lt (Nat.le_trans (Nat.min_le_right _ _) hn) (by decide)
    · rw [upd_same, take_next hi, List.map_append]
      rfl
  · have e := x.2
    rw [List.take_length] at e
    exact hd H e x.1

theorem lcPT {a : Addr} {xs : List V} (F : V → V) (hD : H1 D = none) (hn : xs.length ≤ 1000000) (ha : SqT K H1 a xs)
    (hs : ∀ x ∈ xs, ∀ H, Same H1 H → ∀ Q : VK, (∀ H4, Same H H4 → Q (F x) H4) → te ((wipe σ [j]).set j (some x)) H Q)
    (hd : ∀ H', H' D = some (.lst (xs.map F)) → Same H1 H' → Qd H') :
    ∃ W : Nat → Nat → Hp → Prop, (∃ m, W 0 m (upd H1 D (.lst []))) ∧ ∀ i m H, W i m H →
      ((Itt K a).stop i H ∧ Qd H) ∨ ((Itt K a).go i H ∧ ∃ Nx : Hp → Prop, (∀ H', Nx H' → ∃ m', m' < m ∧ W (i + 1) m' H') ∧ ∀ x H', (Itt K a).yld i H x H' → gName j x (wipe σ [j]) H' fun σ2 H2 => wipe σ2 [j] = wipe σ [j] ∧ tYes σ2 H2 fun b H3 =>
        if b = true then te σ2 H3 fun y H4 => ∃ acc, H4 D = some (.lst acc) ∧ acc.length < sizeLine ∧ Nx (upd H4 D (.lst (acc ++ [y]))) else Nx H3) := by
  refine lc_tup (xs := xs) (fun i H => Same H1 H ∧ H D = some (.lst ((xs.take i).map F))) ⟨(KP.new (S := fun _ => False) hD).toSame, upd_same⟩ (fun i H _ x => sameT x.1 ha) (fun i x0 H hi x => ?_) (fun H x => ?_)
  · refine ⟨wipe1 _ _ _, iteT (B := Same H1 H ∧ H D = some (.lst ((xs.take (i + 1)).map F))) ?_⟩
    refine hs x0 (mem_of_get hi) H x.1 _ fun H4 S4 => ⟨_, S4 _ _ x.2, ?_, ((KP.same (S := fun _ => False) (x.1.trans S4)).mut hD).toSame, ?_⟩
    · rw [List.length_map, List.length_take]
      exact Nat.lt_of_le_of_lt (Nat.le_trans (Nat.min_le_right _ _) hn) (by decide)
    · rw [upd_same, take_next hi, List.map_append]
      rfl
  · have e := x.2
    rw [List.take_length] at e
    exact hd H e x.1

theorem lcPR {n : Nat} (F : Nat → V) (hD : H1 D = none) (hn : n ≤ 1000000)
    (hs : ∀ i, i < n → ∀ H, Same H1 H → ∀ Q : VK, (∀ H4, Same H H4 → Q (F i) H4) → te ((wipe σ [j]).set j (some (.int (0 + i)))) H Q)
    (hd : ∀ H', H' D = some (.lst ((List.range n).map F)) → Same H1 H' → Qd H') :
    ∃ W : Nat → Nat → Hp → Prop, (∃ m, W 0 m (upd H1 D (.lst []))) ∧ ∀ i m H, W i m H →
      ((Itr 0 n).stop i H ∧ Qd H) ∨ ((Itr 0 n).go i H ∧ ∃ Nx : Hp → Prop, (∀ H', Nx H' → ∃ m', m' < m ∧ W (i + 1) m' H') ∧ ∀ x H', (Itr 0 n).yld i H x H' → gName j x (wipe σ [j]) H' fun σ2 H2 => wipe σ2 [j] = wipe σ [j] ∧ tYes σ2 H2 fun b H3 =>
        if b = true then te σ2 H3 fun y H4 => ∃ acc, H4 D = some (.lst acc) ∧ acc.length < sizeLine ∧ Nx (upd H4 D (.lst (acc ++ [y]))) else Nx H3) := by
  refine lc_range (fun i H => Same H1 H ∧ H D = some (.lst ((List.range i).map F))) ⟨(KP.new (S := fun _ => False) hD).toSame, upd_same⟩ (fun i H hi x => ?_) (fun H x => hd H x.2 x.1)
  refine ⟨wipe1 _ _ _, iteT (B := Same H1 H ∧ H D = some (.lst ((List.range (i + 1)).map F))) ?_⟩
  refine hs i hi H x.1 _ fun H4 S4 => ⟨_, S4 _ _ x.2, ?_, ((KP.same (S := fun _ => False) (x.1.trans S4)).mut hD).toSame, ?_⟩
  · rw [List.length_map, List.length_range]
    exact Nat.lt_of_le_of_lt (Nat.le_trans (Nat.le_of_lt hi) hn) (by decide)
  · rw [upd_same, List.range_succ, List.map_append]
    rfl
end
/-! ### the law's own walks, as functions -/
def stp (rs : List (List Int)) (s c : Int) : Int := (rs.getD s.toNat []).getD c.toNat 0
def led (rs : List (List Int)) (s : Int) (ns : List Int) : Int := ns.foldl (stp rs) s
def effs (rs : List (List Int)) (ns : List Int) : List Int := (List.range rs.length).map fun (s : Nat) => led rs (s : Int) ns
def comp (f g : List Int) : List Int := f.map fun s => g.getD s.toNat 0
def powG : Nat → Nat → List Int → List Int → List Int
  | 0, _, _, found => found
  | k + 1, t, one, found => if t = 0 then found else powG k (t / 2) (comp one one) (if t % 2 = 1 then comp found one else found)
/-- a machine's rows: states are below their number, commands below A -/
structure Rs (A : Nat) (rs : List (List Int)) : Prop where
  pos : 0 < rs.length
  row : ∀ r ∈ rs, r.length = A ∧ ∀ z ∈ r, 0 ≤ z ∧ z < (rs.length : Int)
theorem RowsOk.rs {A : Nat} {ts : List (Addr × List Int)} (x : RowsOk A ts) : Rs A (ts.map (·.2)) := by
  refine ⟨by rw [List.length_map]; exact x.pos, fun r hr => ?_⟩
  obtain ⟨t, ht, rfl⟩ := List.mem_map.mp hr
  rw [List.length_map]
  exact x.row t ht
theorem getD_of {α : Type} {xs : List α} {i : Nat} {d x : α} (h : xs[i]? = some x) : xs.getD i d = x := by
  rw [List.getD_eq_getElem?_getD, h] <;> rfl
/-- an index below, as an item -/
theorem item_of {α : Type} {xs : List α} {s : Int} (h0 : 0 ≤ s) (h1 : s < (xs.length : Int)) (d : α) : xs[s.toNat]? = some (xs.getD s.toNat d) := by
  have h : s.toNat < xs.length := by omega
  rw [List.getElem?_eq_getElem h, getD_of (List.getElem?_eq_getElem h)]
theorem Rs.stp {A : Nat} {rs : List (List Int)} (x : Rs A rs) {s c : Int} (s0 : 0 ≤ s) (s1 : s < rs.length) (c0 : 0 ≤ c) (c1 : c < A) : 0 ≤ Lk.stp rs s c ∧ Lk.stp rs s c < (rs.length : Int) := by
  have hm := mem_of_get (item_of s0 s1 ([] : List Int))
  obtain ⟨h1, h2⟩ := x.row _ hm
  exact h2 _ (mem_of_get (item_of c0 (by rw [h1]; exact c1) (0 : Int)))
theorem Rs.led {A : Nat} {rs : List (List Int)} (x : Rs A rs) : ∀ {ns : List Int} {s : Int}, 0 ≤ s → s < rs.length → (∀ c ∈ ns, 0 ≤ c ∧ c < (A : Int)) → 0 ≤ Lk.led rs s ns ∧ Lk.led rs s ns < (rs.length : Int)
  | [], s, h0, h1, _ => ⟨h0, h1⟩
  | c :: ns, s, h0, h1, h => by
    obtain ⟨c0, c1⟩ := h c List.mem_cons_self
    obtain ⟨q0, q1⟩ := x.stp h0 h1 c0 c1
    exact x.led (ns := ns) q0 q1 fun z hz => h z (List.mem_cons_of_mem _ hz)
end Lk

set_option Elab.async false
set_option maxRecDepth 100000
set_option maxHeartbeats 1000000
namespace Lk
open PySem L2
abbrev s_law_row : Stmt := top 32
abbrev N_law_row : List Str := ["_law_deal", "_law_commands", "_law_length", "_law_turn"]
abbrev P_law_row : List Str := ["_law_deal", "_law_commands", "_law_length"]
theorem sc_law_row : FnScope N_law_row P_law_row (defScope s_law_row) := ⟨rfl, rfl, rfl, by decide +kernel, rfl, by decide +kernel, by decide +kernel⟩
abbrev s_law_led : Stmt := top 33
abbrev N_law_led : List Str := ["_law_steps", "_law_state", "_law_row_here", "_law_command"]
abbrev P_law_led : List Str := ["_law_steps", "_law_state", "_law_row_here"]
theorem sc_law_led : FnScope N_law_led P_law_led (defScope s_law_led) := ⟨rfl, rfl, rfl, by decide +kernel, rfl, by decide +kernel, by decide +kernel⟩
abbrev s_law_effect : Stmt := top 34
abbrev N_law_effect : List Str := ["_law_steps", "_law_row_here", "_law_state"]
abbrev P_law_effect : List Str := ["_law_steps", "_law_row_here"]
theorem sc_law_effect : FnScope N_law_effect P_law_effect (defScope s_law_effect) := ⟨rfl, rfl, rfl, by decide +kernel, rfl, by decide +kernel, by decide +kernel⟩
abbrev s_law_power : Stmt := top 41
abbrev N_law_power : List Str := ["_law_one", "_law_times", "_law_found", "_law_state"]
abbrev P_law_power : List Str := ["_law_one", "_law_times"]
theorem sc_law_power : FnScope N_law_power P_law_power (defScope s_law_power) := ⟨rfl, rfl, rfl, by decide +kernel, rfl, by decide +kernel, by decide +kernel⟩
/-- a drawn row -/
def spRow : Sp := fun vs H Q _ => ∃ (d l : Addr) (A n : Int), vs = [.ref d, .int A, .int n] ∧ 0 < A ∧ A ≤ 1000 ∧ 0 ≤ n ∧ n ≤ 1000 ∧ DealAt H d l ∧
  ∀ (H' : Hp) (p : Addr) (ns : List Int), DealAt H' d l → SB d l H H' → H p = none → H' p = some (.tup (ns.map V.int)) → (ns.length : Int) = n → (∀ z ∈ ns, 0 ≤ z ∧ z < A) → Q (.ref p) H'
def rsOf (ts : List (Addr × List Int)) : List (List Int) := ts.map (·.2)
def spLed (K : PySem.W.Frag) : Sp := fun vs H Q _ => ∃ (a p : Addr) (s : Int) (A : Nat) (ts : List (Addr × List Int)) (ns : List Int), vs = [.ref a, .int s, .ref p] ∧ GridAt H a ts ∧ RowsOk A ts ∧ 0 ≤ s ∧ s < ts.length ∧ SqT K H p (ns.map V.int) ∧ (∀ c ∈ ns, 0 ≤ c ∧ c < (A : Int)) ∧
  Q (.int (led (rsOf ts) s ns)) H
def spEffect (K : PySem.W.Frag) : Sp := fun vs H Q _ => ∃ (a p : Addr) (A : Nat) (ts : List (Addr × List Int)) (ns : List Int), vs = [.ref a, .ref p] ∧ GridAt H a ts ∧ RowsOk A ts ∧ ts.length ≤ 1000 ∧ SqT K H p (ns.map V.int) ∧ (∀ c ∈ ns, 0 ≤ c ∧ c < (A : Int)) ∧
  ∀ (H' : Hp) (q : Addr), Same H H' → H q = none → H' q = some (.tup ((effs (rsOf ts) ns).map V.int)) → Q (.ref q) H'
def rng (n : Nat) : List Int := (List.range n).map fun (i : Nat) => (i : Int)
def spPower (K : PySem.W.Frag) : Sp := fun vs H Q _ => ∃ (a : Addr) (t : Int) (fs : List Int), vs = [.ref a, .int t] ∧ SqL K H a (fs.map V.int) ∧ fs.length ≤ 1000 ∧ (∀ z ∈ fs, 0 ≤ z ∧ z < (fs.length : Int)) ∧ 0 ≤ t ∧ t < 2 ^ 63 ∧
  ∀ (H' : Hp) (q : Addr), Same H H' → H q = none → H' q = some (.tup ((powG 63 t.toNat fs (rng fs.length)).map V.int)) → Q (.ref q) H'
theorem rsOf_get {ts : List (Addr × List Int)} {i : Nat} {u : Addr × List Int} (h : ts[i]? = some u) : (rsOf ts)[i]? = some u.2 := by
  show (ts.map (·.2))[i]? = _
  rw [List.getElem?_map, h]
  rfl
section
variable {P : Program} {w : World} {K : PySem.W.Frag} {mg : Str → Option Value} {base : Heap}
theorem ok_row {f fa : Addr} {fd fda : FuncData} (A0 : Df K mg "_law_row" s_law_row f fd P_law_row) (d_law_any : Df K mg "_law_any" s_law_any fa fda P_law_any) (T : Txt mg) : FnOk P w K mg base CX0 2 f fd P_law_row spRow := by
  have G_law_any : FnOk P w K mg base CX0 1 fa fda P_law_any spAny := ok_any d_law_any T
  refine A0.F.ok sc_law_row (fun vs H Q E h => ?_) (fun cdv A outer s H vs Q E hr h => ?_)
  · obtain ⟨d, l, A, n, rfl, _⟩ := h
    rfl
  · obtain ⟨d, l, A, n, rfl, A0, A1, n0, n1, D, k⟩ := h
    refine ⟨_, (pss_one (ps_ret (pe_tupleOf (by rfl) T.tuple (pe_lc (own := [("_law_turn", 3)]) (g := gName 3) (tt := tYes) rfl sc_law_row.nd (pi_range1 rfl T.range (pa_cons (pv 2) pa_nil)) (blkOk_by (N := N_law_row) (sc := defScope s_law_row) (by decide +kernel)) (fun _ _ _ _ _ => (pg_name (i := 3) sc_law_row.nd rfl (Or.inl rfl))) (fun _ _ _ _ _ => pts_nil) (fun _ _ _ _ _ => (pe_call G_law_any (hr.mono (by decide)) rfl d_law_any.g d_law_any.F.kp d_law_any.b .nil pass0 (pa_cons (pv 0) (pa_cons (pv 1) pa_nil)))))))), ?_⟩
    refine ⟨_, rfl, n, rfl, by omega, by omega, fun p hp => lcI (fun _ z => 0 ≤ z ∧ z < A) hp D (by omega) (fun i H2 hi x _ Q2 kQ => ?_) (fun ns H2 hl hz hD x k1 => ?_)⟩
    · exact ⟨_, rfl, _, rfl, d, l, A, rfl, A0, by omega, x, fun H3 z x3 k3 z0 z1 => kQ _ _ x3 k3 ⟨z0, z1⟩⟩
    · refine .inl ⟨p, _, rfl, SqL.of hD, fun q hq => ?_⟩
      exact k _ q ns (x.new hq) (k1.trans (SB.new hq)) (k1.kp.free (x.free hq) hq) upd_same (by omega) (all_of_get hz)
theorem ok_led {f : Addr} {fd : FuncData} (A0 : Df K mg "_law_led" s_law_led f fd P_law_led) (T : Txt mg) : FnOk P w K mg base CX0 1 f fd P_law_led (spLed K) := by
  refine A0.F.ok sc_law_led (fun vs H Q E h => ?_) (fun cdv A outer s H vs Q E hr h => ?_)
  · obtain ⟨a, p, z, A, ts, ns, rfl, _⟩ := h
    rfl
  · obtain ⟨a, p, z, A, ts, ns, rfl, G, R, z0, z1, hp, hc, k⟩ := h
    refine ⟨_, (pss_cons (ps_for PassesOwn.never rfl (pi_tup (pv 2)) (pg_name (i := 3) sc_law_led.nd rfl (Or.inl rfl))
      (pss_one (ps_set (i := 1) sc_law_led.nd rfl (Or.inl rfl) (pe_ix ix_list (pe_ix ix_list (pv 0) (pv 1) (fun _ _ => rfl)) (pv 3) (fun _ _ => rfl)))))
    (pss_one (ps_ret (pv 1)))), ?_⟩
    have hl : (rsOf ts).length = ts.length := List.length_map ..
    refine ⟨_, rfl, p, rfl, ⟨_, hp⟩, for_tup (K := K) (a := p) (xs := ns.map V.int) (fun i σ H1 => H1 = H ∧ ∃ v : Option V, σ = [some (.ref a), some (.int (led (rsOf ts) z (ns.take i))), some (.ref p), v]) ⟨rfl, none, rfl⟩ (fun i σ H1 _ x => by rw [x.1]; exact hp) ?_ ?_⟩
    · rintro i x σ H1 hi ⟨rfl, v, rfl⟩
      obtain ⟨c, hci, rfl⟩ : ∃ c, ns[i]? = some c ∧ V.int c = x := by
        rw [List.getElem?_map] at hi
        cases e : ns[i]? with
        | none => rw [e] at hi; cases hi
        | some c => rw [e] at hi; exact ⟨c, rfl, Option.some.inj hi⟩
      have hcm := hc c (mem_of_get hci)
      have hs := R.rs.led (ns := ns.take i) (s := z) z0 (by rw [List.length_map]; exact z1) fun y hy => hc y (List.mem_of_mem_take hy)
      rw [show (ts.map (·.2)) = rsOf ts from rfl, hl] at hs
      obtain ⟨u, hu, hum⟩ : ∃ u, ts[(led (rsOf ts) z (ns.take i)).toNat]? = some u ∧ u ∈ ts := by
        have h : (led (rsOf ts) z (ns.take i)).toNat < ts.length := by omega
        exact ⟨_, List.getElem?_eq_getElem h, List.getElem_mem h⟩
      obtain ⟨ru, _⟩ := R.row u hum
      refine ⟨_, rfl, _, rfl, a, _, _, V.ref u.1, rfl, rfl, SqL.of G.top, atI_int hs.1 (by rw [List.getElem?_map, hu] <;> rfl), _, rfl, u.1, _, c, V.int (u.2.getD c.toNat 0), rfl, rfl, SqL.of (G.row u hum), atI_int hcm.1 ?_, ?_⟩
      · rw [List.getElem?_map, item_of hcm.1 (by omega) 0]
        rfl
      · refine ⟨rfl, some (.int c), ?_⟩
        have e : led (rsOf ts) z (ns.take (i + 1)) = u.2.getD c.toNat 0 := by
          unfold led
          rw [take_next hci, List.foldl_append]
          show stp (rsOf ts) (led (rsOf ts) z (ns.take i)) c = _
          unfold stp
          have e2 : (rsOf ts).getD (led (rsOf ts) z (ns.take i)).toNat [] = u.2 := getD_of (rsOf_get hu)
          rw [e2]
        rw [e]
        rfl
    · rintro σ H1 ⟨rfl, v, rfl⟩
      rw [List.length_map, List.take_length]
      exact ⟨_, rfl, k⟩
theorem ok_effect {f fl : Addr} {fd fdl : FuncData} (A0 : Df K mg "_law_effect" s_law_effect f fd P_law_effect) (d_law_led : Df K mg "_law_led" s_law_led fl fdl P_law_led) (T : Txt mg) : FnOk P w K mg base CX0 2 f fd P_law_effect (spEffect K) := by
  have G_law_led : FnOk P w K mg base CX0 1 fl fdl P_law_led (spLed K) := ok_led d_law_led T
  refine A0.F.ok sc_law_effect (fun vs H Q E h => ?_) (fun cdv A outer s H vs Q E hr h => ?_)
  · obtain ⟨a, p, A, ts, ns, rfl, _⟩ := h
    rfl
  · obtain ⟨a, p, A, ts, ns, rfl, G, R, h1, hp, hc, k⟩ := h
    refine ⟨_, (pss_one (ps_ret (pe_tupleOf (by rfl) T.tuple (pe_lc (own := [("_law_state", 2)]) (g := gName 2) (tt := tYes) (te := tCall (spLed K) [] E0 (tCons (tVar 0) (tCons (tVar 2) (tCons (tVar 1) tNil)))) rfl sc_law_effect.nd (pi_range1 rfl T.range (pa_cons (pe_callB call_len_seq (by rfl) T.len PySem.boot_len (pa_cons (pv 0) pa_nil)) pa_nil)) (blkOk_by (N := N_law_effect) (sc := defScope s_law_effect) (by decide +kernel)) (fun _ _ _ _ _ => (pg_name (i := 2) sc_law_effect.nd rfl (Or.inl rfl))) (fun _ _ _ _ _ => pts_nil) (fun _ _ _ _ _ => (pe_call G_law_led (hr.mono (by decide)) rfl d_law_led.g d_law_led.F.kp d_law_led.b .nil pass0 (pa_cons (pv 0) (pa_cons (pv 2) (pa_cons (pv 1) pa_nil))))))))), ?_⟩
    have hl : (rsOf ts).length = ts.length := List.length_map ..
    refine ⟨_, rfl, a, _, rfl, .inl (SqL.of G.top), _, rfl, by omega, by rw [List.length_map]; omega, fun q hq => ?_⟩
    rw [List.length_map]
    refine lcPR (fun i => V.int (led (rsOf ts) (i : Int) ns)) hq (by simp; omega) (fun i hi H1 S1 Q1 kQ => ?_) (fun H1 e S1 => .inl ⟨q, _, rfl, SqL.of e, fun t ht => ?_⟩)
    · simp at hi
      refine ⟨_, rfl, _, rfl, _, rfl, a, p, _, A, ts, ns, rfl, G.same S1, R, by omega, by omega, sameT S1 hp, hc, ?_⟩
      rw [Int.zero_add]
      exact kQ _ (Same.refl _)
    · refine k _ t (S1.trans (KP.new (S := fun _ => False) ht).toSame) (S1.free ht) ?_
      rw [upd_same]
      unfold effs
      rw [hl, List.map_map]
      rfl
def fC (one : List Int) : V → V
  | .int s => .int (one.getD s.toNat 0)
  | x => x
theorem fC_map (f g : List Int) : (f.map V.int).map (fC g) = (comp f g).map V.int := by
  unfold comp
  rw [List.map_map, List.map_map]
  rfl
structure InR (n : Nat) (f : List Int) : Prop where
  len : f.length = n
  mem : ∀ z ∈ f, 0 ≤ z ∧ z < (n : Int)
theorem InR.comp {n : Nat} {f g : List Int} (x : InR n f) (y : InR n g) : InR n (Lk.comp f g) := by
  refine ⟨by unfold Lk.comp; rw [List.length_map, x.len], fun z hz => ?_⟩
  obtain ⟨s, hs, rfl⟩ := List.mem_map.mp hz
  obtain ⟨s0, s1⟩ := x.mem s hs
  exact y.mem _ (mem_of_get (item_of s0 (by rw [y.len]; exact s1) (0 : Int)))
theorem InR.rng (n : Nat) : InR n (Lk.rng n) := by
  refine ⟨by unfold Lk.rng; simp, fun z hz => ?_⟩
  obtain ⟨i, hi, rfl⟩ := List.mem_map.mp hz
  have := List.mem_range.mp hi
  omega
theorem rgV_rng (n : Nat) : rgV 0 (n : Int) = (rng n).map V.int := by
  unfold rgV rng
  rw [List.map_map]
  simp
theorem ok_power {f : Addr} {fd : FuncData} (A0 : Df K mg "_law_power" s_law_power f fd P_law_power) (T : Txt mg) : FnOk P w K mg base CX0 1 f fd P_law_power (spPower K) := by
  refine A0.F.ok sc_law_power (fun vs H Q E h => ?_) (fun cdv A outer s H vs Q E hr h => ?_)
  · obtain ⟨a, t, fs, rfl, _⟩ := h
    rfl
  · obtain ⟨a, T0, fs, rfl, hS, hn, hf, t0, t1, k⟩ := h
    refine ⟨_, (pss_cons (ps_set (i := 2) sc_law_power.nd rfl (Or.inl rfl) (pe_listRg rfl (by rfl) T.list (prg_1 (by rfl) T.range (pe_callB call_len_seq (by rfl) T.len PySem.boot_len (pa_cons (pv 0) pa_nil)))))
    (pss_cons (ps_while PassesOwn.never (pt_cmpR op_gt (pv 1) pe_int (nomark _))
      (pss_cons (ps_if (pt_cmpR op_eq (pe_op op_mod (pe_callTy call_int1 (by rfl) T.int (by decide +kernel) (pa_cons (pv 1) pa_nil)) pe_int) pe_int (nomark _)) (pss_one (ps_setLc (i := 2) (own := [("_law_state", 3)]) (g := gName 3) (tt := tYes) (te := tOp (rIxL K) (tVar 0) (tVar 3)) rfl sc_law_power.nd rfl rfl (sw_true rfl rfl rfl (by decide +kernel)) (pi_list (pv 2)) (blkOk_by (N := N_law_power) (sc := defScope s_law_power) (by decide +kernel)) (fun _ _ _ _ _ => (pg_name (i := 3) sc_law_power.nd rfl (Or.inl rfl))) (fun _ _ _ _ _ => pts_nil) (fun _ _ _ _ _ => (pe_ix ix_list (pv 0) (pv 3) (fun _ _ => rfl))))) pss_nil)
      (pss_cons (ps_set (i := 0) sc_law_power.nd rfl (Or.inr rfl) (pe_lc (own := [("_law_state", 3)]) (g := gName 3) (tt := tYes) (te := tOp (rIxL K) (tVar 0) (tVar 3)) rfl sc_law_power.nd (pi_list (pv 0)) (blkOk_by (N := N_law_power) (sc := defScope s_law_power) (by decide +kernel)) (fun _ _ _ _ _ => (pg_name (i := 3) sc_law_power.nd rfl (Or.inl rfl))) (fun _ _ _ _ _ => pts_nil) (fun _ _ _ _ _ => (pe_ix ix_list (pv 0) (pv 3) (fun _ _ => rfl)))))
      (pss_one (ps_set (i := 1) sc_law_power.nd rfl (Or.inl rfl) (pe_op op_fdiv (pv 1) pe_int))))))
    (pss_one (ps_ret (pe_tupleOf (by rfl) T.tuple (pv 2)))))), ?_⟩
    have hlen : (fs.map V.int).length = fs.length := List.length_map ..
    refine ⟨_, rfl, a, _, rfl, .inl hS, _, rfl, RgOk.of_le (by decide) (by omega) (by decide) (by omega), fun q hq => ?_⟩
    rw [hlen, rgV_rng]
    refine ⟨fun m σ H1 => ∃ (x : Option V) (one found : List Int) (t : Int) (p q : Addr) (kk : Nat), σ = [some (.ref p), some (.int t), some (.ref q), x] ∧ Same H H1 ∧ SqL K H1 p (one.map V.int) ∧ SqL K H1 q (found.map V.int) ∧ InR fs.length one ∧ InR fs.length found ∧ 0 ≤ t ∧ t.toNat < 2 ^ kk ∧
        powG kk t.toNat one found = powG 63 T0.toNat fs (rng fs.length) ∧ m = t.toNat,
      ⟨_, none, fs, rng fs.length, T0, a, q, 63, rfl, (KP.new (S := fun _ => False) hq).toSame, (KP.new (S := fun _ => False) hq).toSame.seq hS, SqL.of upd_same, ⟨rfl, hf⟩, InR.rng _, t0, by omega, rfl, rfl⟩, ?_⟩
    rintro m σ H1 ⟨x, one, found, t, p, q, kk, rfl, S1, h1, h2, i1, i2, tp, tk, e, rfl⟩
    have tuple : ∀ (one : V → V) (ys : List Int) (D : Addr) (H2 : Hp), True := fun _ _ _ _ => trivial
    have el : ∀ (y : Int) (H2 : Hp) (Q2 : VK) (σ0 : Option V) (r : Option V), SqL K H2 p (one.map V.int) → 0 ≤ y → y < (fs.length : Int) → Q2 (fC one (.int y)) H2 → tOp (rIxL K) (tVar 0) (tVar 3) [some (.ref p), σ0, r, some (.int y)] H2 Q2 := fun y H2 Q2 σ0 r hp y0 y1 hQ =>
      ⟨_, rfl, _, rfl, p, _, y, _, rfl, rfl, hp, atI_int y0 (by rw [List.getElem?_map, item_of y0 (by rw [i1.len]; exact y1) (0 : Int)] <;> rfl), hQ⟩
    refine ⟨_, rfl, _, _, rfl, rfl, _, rfl, ite2 (fun ht => ?_) (fun ht => ?_)⟩
    · have ht' : 0 < t := of_decide_eq_true ht
      obtain ⟨k', rfl⟩ : ∃ k', kk = k' + 1 := by
        cases kk with
        | zero => simp at tk; omega
        | succ k' => exact ⟨k', rfl⟩
      have tnat : (t / 2).toNat = t.toNat / 2 := by omega
      have t2 : (t / 2).toNat < 2 ^ k' := by
        rw [tnat]
        have : t.toNat < 2 * 2 ^ k' := by rw [Nat.pow_succ] at tk; omega
        omega
      have e' : powG (k' + 1) t.toNat one found = powG k' (t / 2).toNat (comp one one) (if t % 2 = 1 then comp found one else found) := by
        show (if t.toNat = 0 then found else powG k' (t.toNat / 2) (comp one one) (if t.toNat % 2 = 1 then comp found one else found)) = _
        rw [if_neg (by omega), tnat]
        have : (t.toNat % 2 = 1) = (t % 2 = 1) := by
          apply propext
          omega
        simp only [this]
      refine ⟨fun σ' H' => ∃ m', m' < t.toNat ∧ ∃ (x : Option V) (one found : List Int) (t : Int) (p q : Addr) (kk : Nat), σ' = [some (.ref p), some (.int t), some (.ref q), x] ∧ Same H H' ∧ SqL K H' p (one.map V.int) ∧ SqL K H' q (found.map V.int) ∧ InR fs.length one ∧ InR fs.length found ∧ 0 ≤ t ∧ t.toNat < 2 ^ kk ∧
        powG kk t.toNat one found = powG 63 T0.toNat fs (rng fs.length) ∧ m' = t.toNat, fun _ _ h => h, ?_⟩
      have rest : ∀ (H2 : Hp) (q2 : Addr) (found2 : List Int), Same H H2 → SqL K H2 p (one.map V.int) → SqL K H2 q2 (found2.map V.int) → InR fs.length found2 → found2 = (if t % 2 = 1 then comp found one else found) →
          (tSeq (tAsg (tLc (iList K (tVar 0)) (gName 3) tYes (tOp (rIxL K) (tVar 0) (tVar 3)) [3]) (gName 0)) (tAsg (tOp (rI CDiv fun i j => .int (i / j)) (tVar 1) (tC (.int 2))) (gName 1)))
            { nx := fun σ' H' => ∃ m', m' < t.toNat ∧ ∃ (x : Option V) (one found : List Int) (t : Int) (p q : Addr) (kk : Nat), σ' = [some (.ref p), some (.int t), some (.ref q), x] ∧ Same H H' ∧ SqL K H' p (one.map V.int) ∧ SqL K H' q (found.map V.int) ∧ InR fs.length one ∧ InR fs.length found ∧ 0 ≤ t ∧ t.toNat < 2 ^ kk ∧
                powG kk t.toNat one found = powG 63 T0.toNat fs (rng fs.length) ∧ m' = t.toNat, rt := Q,
              ct := fun σ' H' => ∃ m', m' < t.toNat ∧ ∃ (x : Option V) (one found : List Int) (t : Int) (p q : Addr) (kk : Nat), σ' = [some (.ref p), some (.int t), some (.ref q), x] ∧ Same H H' ∧ SqL K H' p (one.map V.int) ∧ SqL K H' q (found.map V.int) ∧ InR fs.length one ∧ InR fs.length found ∧ 0 ≤ t ∧ t.toNat < 2 ^ kk ∧
                powG kk t.toNat one found = powG 63 T0.toNat fs (rng fs.length) ∧ m' = t.toNat,
              bk := fun σ H1 => (tRet (tThen (tVar 2) (kTup K))) { nx := fun _ H' => Q .non H', rt := Q } σ H1 } [some (.ref p), some (.int t), some (.ref q2), x] H2 := by
        intro H2 q2 found2 S2 hp2 hq2 if2 ef
        refine ⟨_, rfl, p, rfl, ⟨_, hp2⟩, fun D hD => ?_⟩
        refine lcPL (K := K) (a := p) (xs := one.map V.int) (fC one) hD (by rw [List.length_map, i1.len]; omega) hp2 (fun y hy H3 S3 Q3 kQ => ?_) (fun H3 e3 S3 => ?_)
        · obtain ⟨z, hz, rfl⟩ := List.mem_map.mp hy
          obtain ⟨z0, z1⟩ := i1.mem z hz
          exact el z H3 Q3 _ _ (S3.seq hp2) z0 z1 (kQ _ (Same.refl _))
        · rw [fC_map] at e3
          refine ⟨_, rfl, _, _, rfl, rfl, ⟨by decide, by decide⟩, _, by omega, x, comp one one, found2, t / 2, D, q2, k', rfl, S2.trans S3, SqL.of e3, S3.seq hq2, i1.comp i1, if2, by omega, t2, ?_, rfl⟩
          rw [ef, ← e', e]
      refine ⟨_, rfl, .inl ⟨_, rfl, _, _, rfl, rfl, (by show (0 : Int) < 2; decide), rfl, _, rfl, ite2 (fun h => ?_) (fun h => ?_)⟩⟩
      · have h1' : t % 2 = 1 := by
          have := of_decide_eq_true h
          injection this
        refine ⟨_, rfl, q, rfl, ⟨_, h2⟩, fun D hD => ?_⟩
        refine lcPL (K := K) (a := q) (xs := found.map V.int) (fC one) hD (by rw [List.length_map, i2.len]; omega) h2 (fun y hy H3 S3 Q3 kQ => ?_) (fun H3 e3 S3 => ?_)
        · obtain ⟨z, hz, rfl⟩ := List.mem_map.mp hy
          obtain ⟨z0, z1⟩ := i2.mem z hz
          exact el z H3 Q3 _ _ (S3.seq h1) z0 z1 (kQ _ (Same.refl _))
        · rw [fC_map] at e3
          exact rest H3 D _ (S1.trans S3) (S3.seq h1) (SqL.of e3) (i2.comp i1) (by rw [if_pos h1'])
      · have h1' : ¬ t % 2 = 1 := fun q => h (decide_eq_true (congrArg V.int q))
        exact rest H1 q found S1 h1 h2 i2 (by rw [if_neg h1'])
    · have ht' : t = 0 := by
        have : ¬ 0 < t := fun q => ht (decide_eq_true q)
        omega
      refine ⟨_, rfl, .inl ⟨q, _, rfl, h2, fun u hu => ?_⟩⟩
      have e2 : found = powG 63 T0.toNat fs (rng fs.length) := by
        rw [← e, ht']
        cases kk <;> rfl
      rw [e2]
      exact k _ u (S1.trans (KP.new (S := fun _ => False) hu).toSame) (S1.free hu) upd_same
end
end Lk

set_option Elab.async false
set_option maxRecDepth 100000
set_option maxHeartbeats 1000000
/-! enumerate over a tuple, as a walk of the hand layer -/
namespace Lk
open PySem PySem.Spec PyProof.Rows L2
/-- a new enumerate object over the iterator at it -/
def enumO (it : Addr) : Obj := { cls := .type "enumerate", data := .fields #[.none, .bool false, .ref it, rawInt 0, .none, .none] }
theorem meets_enumT (a : Addr) (items : Array Value) (dct : Option Addr) (n : Nat) (sl : Array (Option Value)) :
    Meets (Builtin.«enumerate.__new__» ⟨[.type "enumerate", .ref a], []⟩) (fun _ R s =>
      s.heap.get? a = some { cls := .type "tuple", dict := dct, data := .seq items n, slots := sl } ∧
      R (.ok (.ret (.ref (s.heap.push { cls := .type "tuple_iterator", data := .fields #[.ref a, .int 0 0] }).objs.size)))
        { s with heap := (s.heap.push { cls := .type "tuple_iterator", data := .fields #[.ref a, .int 0 0] }).push (enumO s.heap.objs.size) }) :=
  .of_wp fun prog w A R s h => by
    obtain ⟨hp, g, d, tk, os⟩ := s
    obtain ⟨hl, h⟩ := h
    have hsub := sub_enumerate
    have hT : Heap.IsTuple (Shared.heap ⟨hp, g, d, tk, os⟩) a items := ⟨_, hl, rfl, n, rfl⟩
    wp_walk using AutoSeq1.wpAny_loadPart' hl
    refine wpAny_stack_any fun st => wpAny_pure ?_
    split
    · rename_i c _ _ _ _ _
      cases (c == Value.type "enumerate") <;>
      · wp_walk using AutoSeq1.wpAny_loadPart' hl, wpAny_pyIter_tuple hT
        exact ⟨_, rfl, h⟩
    · wp_walk using AutoSeq1.wpAny_loadPart' hl, wpAny_pyIter_tuple hT
      exact ⟨_, rfl, h⟩
section
variable {prog : Program} {w : World} {A : Around} {E : Value → Shared → Prop} {s : Shared}
theorem call_enumT {a : Addr} {items : Array Value} {Q : Value → Shared → Prop} (hT : s.heap.IsTuple a items)
    (h : ∀ h', IsEnum h' (s.heap.objs.size + 1) s.heap.objs.size 0 .none →
      h'.IsTupleIter s.heap.objs.size a 0 →
      (∀ b o, s.heap.get? b = some o → h'.get? b = some o) →
      Q (.ref (s.heap.objs.size + 1)) { s with heap := h' }) :
    wpAny (model prog w) A (call (.type "enumerate") [.ref a]) Q E s := by
  obtain ⟨⟨c, dct, dt, sl⟩, hl, hc, n, hd⟩ := hT
  replace hc : c = .type "tuple" := hc
  replace hd : dt = .seq items n := hd
  subst hc hd
  refine callType_new F.called_enumerate (by decide) (F.typeCall_enumerate_1 _) (F.newCall_enumerate_1 _)
    (fun obj => F.args_object_init_2 obj _) F.entry_enumerate_new (meets_enumT a items dct n sl) ⟨hl, ?_⟩
  have hz : (s.heap.push { cls := .type "tuple_iterator", data := .fields #[.ref a, .int 0 0] }).objs.size
      = s.heap.objs.size + 1 := Heap.size_push ..
  show _ ∧ _
  rw [hz]
  have he : IsEnum ((s.heap.push { cls := .type "tuple_iterator", data := .fields #[.ref a, .int 0 0] }).push (enumO s.heap.objs.size))
      (s.heap.objs.size + 1) s.heap.objs.size 0 .none := by
    have q := Heap.get?_push_size (s.heap.push { cls := .type "tuple_iterator", data := .fields #[.ref a, .int 0 0] })
      (o := enumO s.heap.objs.size) rfl
    rw [hz] at q
    exact q
  have hi : ((s.heap.push { cls := .type "tuple_iterator", data := .fields #[.ref a, .int 0 0] }).push (enumO s.heap.objs.size)).IsTupleIter
      s.heap.objs.size a 0 := ⟨_, Heap.get?_push_of_some _ (Heap.get?_push_size _ rfl), rfl, rfl⟩
  exact ⟨⟨_, he, rfl⟩, h _ he hi fun b o x => Heap.get?_push_of_some _ (Heap.get?_push_of_some _ x)⟩
end
theorem next_enumT_end {prog : Program} {w : World} {A : Around} {E : Value → Shared → Prop} {s : Shared}
    {e it a : Addr} {i : Nat} {items : Array Value} {old : Value} {Q : Option Value → Shared → Prop} (hh : A.handled = none)
    (he : IsEnum s.heap e it i old) (hit : s.heap.IsTupleIter it a i) (ha : s.heap.IsTuple a items) (hx : items[i]? = none)
    (hQ : ∀ h', Heap.ExtBut it s.heap h' → Q none { s with heap := h' }) :
    wpAny (model prog w) A (pyNext (.ref e)) Q E s := by
  have hT : s.TypeIs (.ref e) "enumerate" := ⟨_, he, rfl⟩
  unfold pyNext
  refine wpAny_bind (wpAny_attempt (wpAny_callSpecial?_slot (name := Str.ofString "__next__") hT
    F.slot_enumerate_next (wpAny_call_entry F.slot_enumerate_next hT F.entry_enumerate_next ?_
      (F.args_enumerate_next_1 _))))
  show wpAny _ _ (field (.ref e) 2 >>= _) _ _ _
  refine wpAny_bind (wpAny_field he rfl (x := .ref it) rfl (wpAny_bind
    (wpAny_nextOf_tuple_end hh hit ha hx fun h' x hb hc => ?_)))
  obtain ⟨o, ho, hc⟩ := hc
  refine wpAny_bind (wpAny_isInstance (T := "StopIteration") (b := true) ⟨o, ho, hc⟩ isSubtype_stop ?_)
  exact wpAny_pure (hQ _ hb)
/-- the tuple at a, each item in a new pair with its index -/
def ItE (K : PySem.W.Frag) (a : Addr) : It :=
  ⟨fun i H => ∃ (xs : List V) (x : V), SqT K H a xs ∧ xs[i]? = some x,
    fun i H v H' => ∃ T x, v = .ref T ∧ H T = none ∧ H' = upd H T (.tup [.int (i : Nat), x]) ∧
      ∀ xs, SqT K H a xs → xs[i]? = some x,
    fun i H => ∃ xs : List V, SqT K H a xs ∧ xs.length ≤ i⟩
theorem turn_enumT {P : Program} {w : World} {K : PySem.W.Frag} {elts : List Expr} {kk : Nat} {tpos : Pos} (a e it : Addr) :
    Turn P w K (.Tuple elts kk tpos) (ItE K a) [e, it] e
      (fun i h => (∃ old, IsEnum h e it ((i : Nat) : Int) old) ∧ h.IsTupleIter it a i ∧ e ≠ it ∧ a ≠ it ∧ e ≠ a) where
  mem := by simp
  obj := fun i h st b hb => by
    obtain ⟨⟨old, he⟩, ⟨o, ho, hc, hd⟩, _⟩ := st
    have e' : b = e ∨ b = it := by simpa using hb
    rcases e' with z | z
    · rw [z]
      exact ⟨_, he, fun v q => nomatch q⟩
    · rw [z]
      exact ⟨o, ho, fun v q => by rw [hd] at q; cases q⟩
  keep := fun i h h' st k =>
    let ⟨⟨old, he⟩, hi, hne⟩ := st
    ⟨⟨old, k e (by simp) _ he⟩, hi.at fun o q => k it (by simp) o q, hne⟩
  item := by
    intro X hP hw hK hc i pins s σ H E I hf st hg
    subst hP hw hK
    obtain ⟨⟨old, he⟩, hit, hne, hat, hea⟩ := st
    obtain ⟨xs, x, hq, hx⟩ := hg
    obtain ⟨its, rv, p, hz⟩ := I.tuple hq
    obtain ⟨u, hu, ru⟩ := rv.get hx
    have hel : e < s.heap.objs.size := Heap.lt_size he
    have hil : it < s.heap.objs.size := by obtain ⟨_, q, _⟩ := hit; exact Heap.lt_size q
    have p' : s.heap.IsTuple a its.toArray := p
    have hlt : i < its.toArray.size := by
      have := (List.getElem?_eq_some_iff.mp hu).1
      simpa using this
    have hh : X.A.in1.handled = none := I.ok.hd hc
    refine wpAny_pyNext_enum_itemD (Draws.tuple (prog := X.prog) (w := X.w) (A := X.A.in1) hh it a hat its.toArray) he
      ⟨hit, p'⟩ hlt hne (by simp; exact ⟨hne, hea⟩) fun y h' tk hy ho hst hT hsz hk => ?_
    have ey : y = u := by
      have q : its.toArray[i]? = some u := by simpa using hu
      rw [q] at hy
      exact (Option.some.inj hy).symm
    subst ey
    refine ⟨_, rfl, wpAny_letOwnedTupleGo_enum (s := { s with heap := h', toks := tk + 1 }) ho fun h'' he' sb => ?_⟩
    have hT2 : h''.get? s.heap.objs.size = some { cls := .type "tuple", data := .seq #[.int i tk, y] } :=
      (sb.2 _ (Nat.ne_of_gt hel)).trans hT
    have new : ObjOk X.prog X.w (upd H s.heap.objs.size (.tup [.int (i : Nat), x])) h'' s.heap.objs.size (.tup [.int (i : Nat), x]) :=
      ⟨by show 2 ≤ sizeLine; decide, [.int i tk, y], .cons ⟨_, rfl⟩ (.cons ru .nil), ⟨_, hT2, rfl, _, rfl⟩⟩
    have I1 : Inv X pins σ (upd H s.heap.objs.size (.tup [.int (i : Nat), x])) { s with heap := h'', toks := tk + 1 } :=
      I.turnedNew (ch := [e, it]) (fun b ob hb q => (sb.2 b (fun z => hb (by simp [z]))).trans
        (hk b ob (fun z => hb (by simp [z])) (fun z => hb (by simp [z])) q)) hf (Nat.le_refl _) new
    refine ⟨.ref s.heap.objs.size, _, I1, rfl, ⟨_, x, rfl, I.hok.fresh (Nat.le_refl _), rfl, fun ys hy => by
      rw [I.tuple_inj hy hq]; exact hx⟩, ⟨⟨y, ?_⟩, hst.1.at fun o q => (sb.2 it (Ne.symm hne)).trans q, hne, hat, hea⟩, fun b hb => ?_⟩
    · have e1 : ((i + 1 : Nat) : Int) = (i : Int) + 1 := by omega
      rw [e1]
      exact he'
    · have hb' : b < s.heap.objs.size := by
        have e' : b = e ∨ b = it := by simpa using hb
        rcases e' with z | z
        · rw [z]; exact hel
        · rw [z]; exact hil
      rw [upd_ne (Nat.ne_of_lt hb')]
      exact (hf b hb).1
  done := by
    intro X hP hw hK hc i pins s σ H E I hf st hg
    subst hP hw hK
    obtain ⟨⟨old, he⟩, hit, hne, hat, hea⟩ := st
    obtain ⟨xs, hq, hx⟩ := hg
    obtain ⟨its, rv, p, hz⟩ := I.tuple hq
    obtain ⟨f0, f1, f2, f3, f4, f5⟩ := hf it (by simp)
    have hl := rv.length
    exact next_enumT_end (I.ok.hd hc) he hit (show s.heap.IsTuple a its.toArray from p) (by simp; omega) fun h' eb =>
      ⟨rfl, I.turned (t' := s.toks) (fun b o hb q => eb b o hb q) f0 f1 f3 f4 f5⟩
  self := fun A i s Q E st h => let ⟨⟨_, he⟩, _⟩ := st; wpAny_pyIter_enum he h
def iEnumT (K : PySem.W.Frag) (ta : TA) : TI := fun σ H R => ta σ H fun vs H1 => ∃ a xs, vs = [.ref a] ∧ SqT K H1 a xs ∧ R (ItE K a) H1
theorem pi_enumT {X : Cx} {e : Expr} {ta : TA} {p pos tpos : Pos} {elts : List Expr} {kk : Nat} (hg : Gl X "enumerate")
    (hm : X.mg "enumerate" = none) (ha : PA X [e] ta) (hs : starEach [e] X.env = [(false, eval e X.env)] := by rfl) :
    PI X (.Tuple elts kk tpos) (.Call (.Name "enumerate" p) [e] [] pos) (iEnumT X.K ta) := by
  refine ⟨fun pins s σ H R I h => ?_⟩
  refine Call_ (ld_blt I hg hm boot_enumerate (PyProof.Rows.callWith_type1
    (thn (ha.run pos pins s σ H _ I h) fun us s1 ⟨vs, H1, I1, r1, q1⟩ => ?_) hs rfl))
  obtain ⟨a, xs, ex, hq, q⟩ := q1
  subst ex
  cases r1 with
  | cons r rr =>
    cases rr
    cases r
    obtain ⟨its, rv, p', hz⟩ := I1.tuple hq
    have pT : s1.heap.IsTuple a its.toArray := p'
    have hal : a < s1.heap.objs.size := by obtain ⟨_, q, _⟩ := pT; exact Heap.lt_size q
    refine call_enumT pT fun h' he hit hk => wpAny_pyIter_enum he ?_
    have I2 : Inv X pins σ H1 { s1 with heap := h' } := I1.kept (t' := s1.toks) hk
    refine ⟨s1.heap.objs.size + 1, [s1.heap.objs.size + 1, s1.heap.objs.size], _, _, H1, rfl, I2,
      turn_enumT a (s1.heap.objs.size + 1) s1.heap.objs.size,
      ⟨⟨.none, he⟩, hit, Nat.succ_ne_self _, Nat.ne_of_lt hal, Nat.ne_of_gt (Nat.lt_succ_of_lt hal)⟩, fun b hb => ?_, q⟩
    have hle : s1.heap.objs.size ≤ b := by
      have e' : b = s1.heap.objs.size + 1 ∨ b = s1.heap.objs.size := by simpa using hb
      rcases e' with z | z
      · rw [z]; exact Nat.le_succ _
      · rw [z]; exact Nat.le_refl _
    exact I1.fpOk hle (I1.hok.fresh hle)
end Lk

set_option Elab.async false
set_option maxRecDepth 100000
set_option maxHeartbeats 1000000
namespace Lk
open PySem L2
/-! ### loops over enumerate -/
theorem for_enumT {K : PySem.W.Frag} {a : Addr} {xs : List V} {g : TG} {tb : TS} {D : Ends} {σ : St} {H : Hp} (Pv : Nat → St → Hp → Prop) (h0 : Pv 0 σ H) (hl : ∀ i σ H, Pv i σ H → SqT K H a xs)
    (hs : ∀ i x σ H T, xs[i]? = some x → Pv i σ H → H T = none → g (.ref T) σ (upd H T (.tup [.int (i : Nat), x])) fun σ2 H2 => tb { D with nx := Pv (i + 1), ct := Pv (i + 1), bk := D.nx } σ2 H2)
    (hd : ∀ σ H, Pv xs.length σ H → D.nx σ H) :
    ∃ W : Nat → Nat → St → Hp → Prop, (∃ m, W 0 m σ H) ∧ ∀ i m σ H, W i m σ H →
      ((ItE K a).stop i H ∧ D.nx σ H) ∨ ((ItE K a).go i H ∧ ∃ N : St → Hp → Prop, (∀ σ' H', N σ' H' → ∃ m', m' < m ∧ W (i + 1) m' σ' H') ∧ ∀ x H', (ItE K a).yld i H x H' → g x σ H' fun σ2 H2 => tb { D with nx := N, ct := N, bk := D.nx } σ2 H2) := by
  refine ⟨fun i m σ H => m = xs.length - i ∧ i ≤ xs.length ∧ Pv i σ H, ⟨xs.length, by simp, Nat.zero_le _, h0⟩, ?_⟩
  rintro i m σ H ⟨rfl, hi, p⟩
  have q := hl i σ H p
  by_cases h : i < xs.length
  · refine .inr ⟨⟨xs, xs[i], q, List.getElem?_eq_getElem h⟩, Pv (i + 1), fun σ' H' n => ⟨xs.length - (i + 1), by omega, rfl, by omega, n⟩, ?_⟩
    rintro x H' ⟨T, y, rfl, hT, rfl, hy⟩
    exact hs i y σ H T (hy xs q) p hT
  · have e : i = xs.length := by omega
    subst e
    exact .inl ⟨⟨xs, q, Nat.le_refl _⟩, hd σ H p⟩
theorem for_enumL {K : PySem.W.Frag} {a : Addr} {xs : List V} {g : TG} {tb : TS} {D : Ends} {σ : St} {H : Hp} (Pv : Nat → St → Hp → Prop) (h0 : Pv 0 σ H) (hl : ∀ i σ H, Pv i σ H → SqL K H a xs)
    (hs : ∀ i x σ H T, xs[i]? = some x → Pv i σ H → H T = none → g (.ref T) σ (upd H T (.tup [.int (i : Nat), x])) fun σ2 H2 => tb { D with nx := Pv (i + 1), ct := Pv (i + 1), bk := D.nx } σ2 H2)
    (hd : ∀ σ H, Pv xs.length σ H → D.nx σ H) :
    ∃ W : Nat → Nat → St → Hp → Prop, (∃ m, W 0 m σ H) ∧ ∀ i m σ H, W i m σ H →
      ((Ite K a).stop i H ∧ D.nx σ H) ∨ ((Ite K a).go i H ∧ ∃ N : St → Hp → Prop, (∀ σ' H', N σ' H' → ∃ m', m' < m ∧ W (i + 1) m' σ' H') ∧ ∀ x H', (Ite K a).yld i H x H' → g x σ H' fun σ2 H2 => tb { D with nx := N, ct := N, bk := D.nx } σ2 H2) := by
  refine ⟨fun i m σ H => m = xs.length - i ∧ i ≤ xs.length ∧ Pv i σ H, ⟨xs.length, by simp, Nat.zero_le _, h0⟩, ?_⟩
  rintro i m σ H ⟨rfl, hi, p⟩
  have q := hl i σ H p
  by_cases h : i < xs.length
  · refine .inr ⟨⟨xs, xs[i], q, List.getElem?_eq_getElem h⟩, Pv (i + 1), fun σ' H' n => ⟨xs.length - (i + 1), by omega, rfl, by omega, n⟩, ?_⟩
    rintro x H' ⟨T, y, rfl, hT, rfl, hy⟩
    exact hs i y σ H T (hy xs q) p hT
  · have e : i = xs.length := by omega
    subst e
    exact .inl ⟨⟨xs, q, Nat.le_refl _⟩, hd σ H p⟩

/-! ### any values, as data -/
mutual
inductive Dv (H : Hp) : V → PyData → Prop
  | non : Dv H .non .none
  | bl (b : Bool) : Dv H (.bl b) (.bool b)
  | int (i : Int) : Dv H (.int i) (.int i)
  | str (x : Str) : Dv H (.str x) (.str x)
  | lst {a : Addr} {xs : List V} {ds : List PyData} : H a = some (.lst xs) → DvAll H xs ds → Dv H (.ref a) (.list ds)
  | tup {a : Addr} {xs : List V} {ds : List PyData} : H a = some (.tup xs) → DvAll H xs ds → Dv H (.ref a) (.tuple ds)
  | dct {a : Addr} : H a = some (.dK []) → Dv H (.ref a) (.dict [])
inductive DvAll (H : Hp) : List V → List PyData → Prop
  | nil : DvAll H [] []
  | cons {v : V} {vs : List V} {d : PyData} {ds : List PyData} : Dv H v d → DvAll H vs ds → DvAll H (v :: vs) (d :: ds)
end
mutual
theorem Dv.kp {S : Addr → Prop} {H H' : Hp} (hS : ∀ a, S a → H a = none) (k : KP S H H') : ∀ {v : V} {d : PyData}, Dv H v d → Dv H' v d
  | _, _, .non => .non
  | _, _, .bl b => .bl b
  | _, _, .int i => .int i
  | _, _, .str x => .str x
  | _, _, .lst h t => .lst (k.get (fun s => by rw [hS _ s] at h; cases h) h) (DvAll.kp hS k t)
  | _, _, .tup h t => .tup (k.get (fun s => by rw [hS _ s] at h; cases h) h) (DvAll.kp hS k t)
  | _, _, .dct h => .dct (k.get (fun s => by rw [hS _ s] at h; cases h) h)
theorem DvAll.kp {S : Addr → Prop} {H H' : Hp} (hS : ∀ a, S a → H a = none) (k : KP S H H') : ∀ {vs : List V} {ds : List PyData}, DvAll H vs ds → DvAll H' vs ds
  | _, _, .nil => .nil
  | _, _, .cons h t => .cons (Dv.kp hS k h) (DvAll.kp hS k t)
end
theorem Dv.same {H H' : Hp} {v : V} {d : PyData} (k : Same H H') (h : Dv H v d) : Dv H' v d := h.kp (S := fun _ => False) (fun _ x => x.elim) (KP.same k)
theorem DvAll.same {H H' : Hp} {v : List V} {d : List PyData} (k : Same H H') (h : DvAll H v d) : DvAll H' v d := h.kp (S := fun _ => False) (fun _ x => x.elim) (KP.same k)
theorem DvAll.len {H : Hp} : ∀ {vs : List V} {ds : List PyData}, DvAll H vs ds → vs.length = ds.length
  | _, _, .nil => rfl
  | _, _, .cons _ t => congrArg (· + 1) t.len
theorem DvAll.get {H : Hp} : ∀ {vs : List V} {ds : List PyData} {i : Nat} {v : V}, DvAll H vs ds → vs[i]? = some v → ∃ d, ds[i]? = some d ∧ Dv H v d
  | _, _, i, v, .nil, h => by simp at h
  | _, _, 0, v, .cons h _, e => ⟨_, rfl, by have e' := Option.some.inj e; rw [← e']; exact h⟩
  | _, _, i + 1, v, .cons _ t, e => t.get (i := i) e
def tyD : PyData → String
  | .none => "NoneType"
  | .bool _ => "bool"
  | .int _ => "int"
  | .str _ => "str"
  | .list _ => "list"
  | .tuple _ => "tuple"
  | .dict _ => "dict"
theorem Dv.ty {K : PySem.W.Frag} {H : Hp} {v : V} {d : PyData} : Dv H v d → TyX K H v (.type (tyD d))
  | .non => .base .non
  | .bl b => .base (.bl b)
  | .int i => .base (.int i)
  | .str x => .base (.str x)
  | .lst h _ => .base (.lst h)
  | .tup h _ => .base (.tup h)
  | .dct h => .base (.dK h)
/-- an integer that is no bool; from 0 on; below a limit; a sequence; an entry -/
def isI : PyData → Bool
  | .int _ => true
  | _ => false
def isN : PyData → Bool
  | .int i => decide (0 ≤ i)
  | _ => false
def isB (n : Int) : PyData → Bool
  | .int i => decide (0 ≤ i) && decide (i < n)
  | _ => false
def isS : PyData → Bool
  | .list _ | .tuple _ => true
  | _ => false
def itemsD : PyData → List PyData
  | .list ds | .tuple ds => ds
  | _ => []
def isE (A n : Int) (d : PyData) : Bool := isS d && (decide (((itemsD d).length : Int) = A) && (itemsD d).all (isB n))
abbrev s_is_integer : Stmt := top 6
abbrev N_is_integer : List Str := ["value"]
abbrev P_is_integer : List Str := ["value"]
theorem sc_is_integer : FnScope N_is_integer P_is_integer (defScope s_is_integer) := ⟨rfl, rfl, rfl, by decide +kernel, rfl, by decide +kernel, by decide +kernel⟩
abbrev s_is_number : Stmt := top 7
abbrev N_is_number : List Str := ["value"]
abbrev P_is_number : List Str := ["value"]
theorem sc_is_number : FnScope N_is_number P_is_number (defScope s_is_number) := ⟨rfl, rfl, rfl, by decide +kernel, rfl, by decide +kernel, by decide +kernel⟩
abbrev s_is_below : Stmt := top 8
abbrev N_is_below : List Str := ["value", "limit"]
abbrev P_is_below : List Str := ["value", "limit"]
theorem sc_is_below : FnScope N_is_below P_is_below (defScope s_is_below) := ⟨rfl, rfl, rfl, by decide +kernel, rfl, by decide +kernel, by decide +kernel⟩
abbrev s_is_sequence : Stmt := top 9
abbrev N_is_sequence : List Str := ["value"]
abbrev P_is_sequence : List Str := ["value"]
theorem sc_is_sequence : FnScope N_is_sequence P_is_sequence (defScope s_is_sequence) := ⟨rfl, rfl, rfl, by decide +kernel, rfl, by decide +kernel, by decide +kernel⟩
abbrev s_are_below : Stmt := top 10
abbrev N_are_below : List Str := ["values", "limit", "value"]
abbrev P_are_below : List Str := ["values", "limit"]
theorem sc_are_below : FnScope N_are_below P_are_below (defScope s_are_below) := ⟨rfl, rfl, rfl, by decide +kernel, rfl, by decide +kernel, by decide +kernel⟩
abbrev s_is_entry : Stmt := top 13
abbrev N_is_entry : List Str := ["entry", "commands", "states"]
abbrev P_is_entry : List Str := ["entry", "commands", "states"]
theorem sc_is_entry : FnScope N_is_entry P_is_entry (defScope s_is_entry) := ⟨rfl, rfl, rfl, by decide +kernel, rfl, by decide +kernel, by decide +kernel⟩
/-- a test of one value -/
def spT1 (t : PyData → Bool) : Sp := fun vs H Q _ => ∃ (x : V) (d : PyData), vs = [x] ∧ Dv H x d ∧ ∀ H', Same H H' → Q (.bl (t d)) H'
def spBelow : Sp := fun vs H Q _ => ∃ (x : V) (d : PyData) (n : Int), vs = [x, .int n] ∧ Dv H x d ∧ Q (.bl (isB n d)) H
def spAre : Sp := fun vs H Q _ => ∃ (x : V) (d : PyData) (n : Int), vs = [x, .int n] ∧ Dv H x d ∧ isS d = true ∧ (itemsD d).length ≤ 100000 ∧ ∀ H', Same H H' → Q (.bl ((itemsD d).all (isB n))) H'
def spEntry : Sp := fun vs H Q _ => ∃ (x : V) (d : PyData) (A n : Int), vs = [x, .int A, .int n] ∧ Dv H x d ∧ (itemsD d).length ≤ 100000 ∧ ∀ H', Same H H' → Q (.bl (isE A n d)) H'
theorem Same.new {H : Hp} {p : Addr} {o : HO} (h : H p = none) : Same H (upd H p o) := (KP.new (S := fun _ => False) h).toSame
section
variable {P : Program} {w : World} {K : PySem.W.Frag} {mg : Str → Option Value} {base : Heap}
theorem ok_integer {f : Addr} {fd : FuncData} (A0 : Df K mg "is_integer" s_is_integer f fd P_is_integer) (T : Txt mg) : FnOk P w K mg base CX0 1 f fd P_is_integer (spT1 isI) := by
  refine A0.F.ok sc_is_integer (fun vs H Q E h => ?_) (fun cdv A outer s H vs Q E hr h => ?_)
  · obtain ⟨x, d, rfl, _⟩ := h
    rfl
  · obtain ⟨x, d, rfl, D, k⟩ := h
    refine ⟨_, (pss_one (ps_ret (pe_and (pe_callB call_isi (by rfl) T.isinstance PyProof.Rows.boot_isinstance (pa_cons (pv 0) (pa_cons (pe_bltn (v := .ty "int") (by rfl) T.int (by decide +kernel) rfl) pa_nil)))
      (pe_one (pe_not (pe_callB call_isi (by rfl) T.isinstance PyProof.Rows.boot_isinstance (pa_cons (pv 0) (pa_cons (pe_bltn (v := .ty "bool") (by rfl) T.bool (by decide +kernel) rfl) pa_nil)))))))), ?_⟩
    have key : ∀ (b1 b2 : Bool), PySem.W.kitOne K (.type (tyD d)) (.type "int") = some b1 → PySem.W.kitOne K (.type (tyD d)) (.type "bool") = some b2 → (b1 && !b2) = isI d → tRet (tAndV (tCB (rIsi K) (tCons (tVar 0) (tCons (tC (.ty "int")) tNil))) (tNotV (tCB (rIsi K) (tCons (tVar 0) (tCons (tC (.ty "bool")) tNil))))) { nx := fun _ H' => Q .non H', rt := Q } [some x] H := by
      intro b1 b2 h1 h2 h3
      refine ⟨_, rfl, x, _, _, _, b1, rfl, .ty _, D.ty, h1, b1, rfl, ?_⟩
      cases b1 with
      | false =>
        refine iteF ?_
        rw [show (false : Bool) = isI d from h3]
        exact k _ (Same.refl _)
      | true =>
        refine iteT ⟨_, rfl, x, _, _, _, b2, rfl, .ty _, D.ty, h2, b2, rfl, ?_⟩
        rw [show (!b2) = isI d by rw [← h3, Bool.true_and]]
        exact k _ (Same.refl _)
    cases d with
    | none => exact key false false (kit_ty (a := "NoneType") (by decide +kernel)) (kit_ty (a := "NoneType") (by decide +kernel)) rfl
    | bool b => exact key true true (kit_ty (a := "bool") (by decide +kernel)) (kit_ty (a := "bool") (by decide +kernel)) rfl
    | int i => exact key true false (kit_ty (a := "int") (by decide +kernel)) (kit_ty (a := "int") (by decide +kernel)) rfl
    | str x => exact key false false (kit_ty (a := "str") (by decide +kernel)) (kit_ty (a := "str") (by decide +kernel)) rfl
    | list x => exact key false false (kit_ty (a := "list") (by decide +kernel)) (kit_ty (a := "list") (by decide +kernel)) rfl
    | tuple x => exact key false false (kit_ty (a := "tuple") (by decide +kernel)) (kit_ty (a := "tuple") (by decide +kernel)) rfl
    | dict x => exact key false false (kit_ty (a := "dict") (by decide +kernel)) (kit_ty (a := "dict") (by decide +kernel)) rfl
theorem ok_sequence {f : Addr} {fd : FuncData} (A0 : Df K mg "is_sequence" s_is_sequence f fd P_is_sequence) (T : Txt mg) : FnOk P w K mg base CX0 1 f fd P_is_sequence (spT1 isS) := by
  refine A0.F.ok sc_is_sequence (fun vs H Q E h => ?_) (fun cdv A outer s H vs Q E hr h => ?_)
  · obtain ⟨x, d, rfl, _⟩ := h
    rfl
  · obtain ⟨x, d, rfl, D, k⟩ := h
    refine ⟨_, (pss_one (ps_ret (pe_callB call_isiT (by rfl) T.isinstance PyProof.Rows.boot_isinstance (pa_cons (pv 0) (pa_cons (pe_tup (pa_cons (pe_bltn (v := .ty "list") (by rfl) T.list (by decide +kernel) rfl) (pa_cons (pe_bltn (v := .ty "tuple") (by rfl) T.tuple (by decide +kernel) rfl) pa_nil))) pa_nil))))), ?_⟩
    have key : ∀ (b1 b2 : Bool), PySem.W.kitOne K (.type (tyD d)) (.type "list") = some b1 → PySem.W.kitOne K (.type (tyD d)) (.type "tuple") = some b2 → (b1 || b2) = isS d → tRet (tCB (rIsiT K) (tCons (tVar 0) (tCons (tTup (tCons (tC (.ty "list")) (tCons (tC (.ty "tuple")) tNil))) tNil))) { nx := fun _ H' => Q .non H', rt := Q } [some x] H := by
      intro b1 b2 h1 h2 h3
      refine ⟨_, rfl, by show 2 ≤ sizeLine; decide, fun p hp => ⟨x, p, _, _, [.type "list", .type "tuple"], (b1 || b2), rfl, upd_same, .cons (.ty _) (.cons (.ty _) .nil), (D.same (Same.new hp)).ty, ?_, ?_⟩⟩
      · refine kitAny_cons h1 (fun e => ?_) (fun e => by rw [e]; rfl)
        refine kitAny_cons h2 (fun e2 => by rw [e, e2]; exact kitAny_nil) (fun e2 => by rw [e2, Bool.or_true])
      · rw [h3]
        exact k _ (Same.new hp)
    cases d with
    | none => exact key false false (kit_ty (a := "NoneType") (by decide +kernel)) (kit_ty (a := "NoneType") (by decide +kernel)) rfl
    | bool b => exact key false false (kit_ty (a := "bool") (by decide +kernel)) (kit_ty (a := "bool") (by decide +kernel)) rfl
    | int i => exact key false false (kit_ty (a := "int") (by decide +kernel)) (kit_ty (a := "int") (by decide +kernel)) rfl
    | str x => exact key false false (kit_ty (a := "str") (by decide +kernel)) (kit_ty (a := "str") (by decide +kernel)) rfl
    | list x => exact key true false (kit_ty (a := "list") (by decide +kernel)) (kit_ty (a := "list") (by decide +kernel)) rfl
    | tuple x => exact key false true (kit_ty (a := "tuple") (by decide +kernel)) (kit_ty (a := "tuple") (by decide +kernel)) rfl
    | dict x => exact key false false (kit_ty (a := "dict") (by decide +kernel)) (kit_ty (a := "dict") (by decide +kernel)) rfl
end
end Lk

set_option Elab.async false
set_option maxRecDepth 100000
set_option maxHeartbeats 1000000
namespace Lk
open PySem L2
def isBV (n : Int) : V → Bool
  | .int i => decide (0 ≤ i) && decide (i < n)
  | _ => false
theorem Dv.isBV {H : Hp} {x : V} {d : PyData} {n : Int} (h : Dv H x d) : Lk.isBV n x = isB n d := by
  cases h <;> rfl
theorem DvAll.all {H : Hp} {n : Int} : ∀ {xs : List V} {ds : List PyData}, DvAll H xs ds → (xs.map (Lk.isBV n)).all id = ds.all (isB n)
  | _, _, .nil => rfl
  | _, _, .cons h t => by
    rw [List.map_cons, List.all_cons, List.all_cons, DvAll.all t, h.isBV]
    rfl
def spBelowS : Sp := fun vs H Q _ => ∃ (x : V) (d : PyData) (n : Int), vs = [x, .int n] ∧ Dv H x d ∧ ∀ H', Same H H' → Q (.bl (isB n d)) H'
section
variable {P : Program} {w : World} {K : PySem.W.Frag} {mg : Str → Option Value} {base : Heap}
theorem ok_number {f fi : Addr} {fd fdi : FuncData} (A0 : Df K mg "is_number" s_is_number f fd P_is_number) (d_is_integer : Df K mg "is_integer" s_is_integer fi fdi P_is_integer) (T : Txt mg) : FnOk P w K mg base CX0 2 f fd P_is_number (spT1 isN) := by
  have G_is_integer : FnOk P w K mg base CX0 1 fi fdi P_is_integer (spT1 isI) := ok_integer d_is_integer T
  refine A0.F.ok sc_is_number (fun vs H Q E h => ?_) (fun cdv A outer s H vs Q E hr h => ?_)
  · obtain ⟨x, d, rfl, _⟩ := h
    rfl
  · obtain ⟨x, d, rfl, D, k⟩ := h
    refine ⟨_, (pss_one (ps_ret (pe_and (pe_call G_is_integer (hr.mono (by decide)) rfl d_is_integer.g d_is_integer.F.kp d_is_integer.b .nil pass0 (pa_cons (pv 0) pa_nil)) (pe_one (pe_cmpR op_ge (pv 0) pe_int (nomark _)))))), ?_⟩
    refine ⟨_, rfl, x, d, rfl, D, fun H1 S1 => ⟨isI d, rfl, ?_⟩⟩
    cases D with
    | int i => exact iteT ⟨_, rfl, _, _, rfl, rfl, k _ S1⟩
    | non => exact iteF (k _ S1)
    | bl b => exact iteF (k _ S1)
    | str b => exact iteF (k _ S1)
    | lst _ _ => exact iteF (k _ S1)
    | tup _ _ => exact iteF (k _ S1)
    | dct _ => exact iteF (k _ S1)
theorem ok_below {f fi fn : Addr} {fd fdi fdn : FuncData} (A0 : Df K mg "is_below" s_is_below f fd P_is_below) (d_is_number : Df K mg "is_number" s_is_number fn fdn P_is_number) (d_is_integer : Df K mg "is_integer" s_is_integer fi fdi P_is_integer) (T : Txt mg) : FnOk P w K mg base CX0 3 f fd P_is_below spBelowS := by
  have G_is_number : FnOk P w K mg base CX0 2 fn fdn P_is_number (spT1 isN) := ok_number d_is_number d_is_integer T
  refine A0.F.ok sc_is_below (fun vs H Q E h => ?_) (fun cdv A outer s H vs Q E hr h => ?_)
  · obtain ⟨x, d, n, rfl, _⟩ := h
    rfl
  · obtain ⟨x, d, n, rfl, D, k⟩ := h
    refine ⟨_, (pss_one (ps_ret (pe_and (pe_call G_is_number (hr.mono (by decide)) rfl d_is_number.g d_is_number.F.kp d_is_number.b .nil pass0 (pa_cons (pv 0) pa_nil)) (pe_one (pe_cmpR op_lt (pv 0) (pv 1) (nomark _)))))), ?_⟩
    refine ⟨_, rfl, x, d, rfl, D, fun H1 S1 => ⟨isN d, rfl, ?_⟩⟩
    cases D with
    | int i =>
      show (if decide (0 ≤ i) = true then _ else _)
      have k' : Q (.bl (decide (0 ≤ i) && decide (i < n))) H1 := k H1 S1
      by_cases h0 : 0 ≤ i
      · rw [if_pos (decide_eq_true h0)]
        refine ⟨_, rfl, _, rfl, _, _, rfl, rfl, ?_⟩
        rw [decide_eq_true h0, Bool.true_and] at k'
        exact k'
      · rw [decide_eq_false h0] at k' ⊢
        exact iteF k'
    | non => exact iteF (k _ S1)
    | bl b => exact iteF (k _ S1)
    | str b => exact iteF (k _ S1)
    | lst _ _ => exact iteF (k _ S1)
    | tup _ _ => exact iteF (k _ S1)
    | dct _ => exact iteF (k _ S1)
theorem ok_are {f fi fn fb : Addr} {fd fdi fdn fdb : FuncData} (A0 : Df K mg "are_below" s_are_below f fd P_are_below) (d_is_below : Df K mg "is_below" s_is_below fb fdb P_is_below) (d_is_number : Df K mg "is_number" s_is_number fn fdn P_is_number) (d_is_integer : Df K mg "is_integer" s_is_integer fi fdi P_is_integer) (T : Txt mg) : FnOk P w K mg base CX0 4 f fd P_are_below spAre := by
  have G_is_below : FnOk P w K mg base CX0 3 fb fdb P_is_below spBelowS := ok_below d_is_below d_is_number d_is_integer T
  refine A0.F.ok sc_are_below (fun vs H Q E h => ?_) (fun cdv A outer s H vs Q E hr h => ?_)
  · obtain ⟨x, d, n, rfl, _⟩ := h
    rfl
  · obtain ⟨x, d, n, rfl, D, hS, hl, k⟩ := h
    have fin : ∀ (xs : List V) (ds : List PyData) (H' : Hp) (q : Addr), DvAll H xs ds → itemsD d = ds → Same H H' → H' q = some (.lst (xs.map fun x => V.bl (isBV n x))) → rAll K [.ref q] H' Q := fun xs ds H' q h1 h2 h3 h4 => by
      refine ⟨q, xs.map (isBV n), rfl, SqL.of ?_, ?_⟩
      · rw [h4, List.map_map]
        rfl
      · rw [h1.all, ← h2]
        exact k _ h3
    have el : ∀ (xs : List V) (ds : List PyData) (y : V) (H2 : Hp) (Q2 : VK) (x0 : V), DvAll H xs ds → y ∈ xs → Same H H2 → (∀ H4, Same H2 H4 → Q2 (V.bl (isBV n y)) H4) → tCall spBelowS [] E0 (tCons (tVar 2) (tCons (tVar 1) tNil)) [some x0, some (.int n), some y] H2 Q2 := fun xs ds y H2 Q2 x0 h1 h2 h3 h4 => by
      obtain ⟨i, hi⟩ := List.getElem?_of_mem h2
      obtain ⟨e, _, De⟩ := h1.get hi
      refine ⟨_, rfl, _, rfl, y, e, n, rfl, De.same h3, fun H3 S3 => ?_⟩
      rw [← De.isBV]
      exact h4 _ S3
    cases D with
    | @lst a xs ds ha hx =>
      refine ⟨_, (pss_one (ps_ret (pe_callB (cr_all rfl) (by rfl) T.all PyProof.Rows.boot_all (pa_cons (pe_lc (own := [("value", 2)]) (g := gName 2) (tt := tYes) rfl sc_are_below.nd (pi_list (pv 0)) (blkOk_by (N := N_are_below) (sc := defScope s_are_below) (by decide +kernel)) (fun _ _ _ _ _ => (pg_name (i := 2) sc_are_below.nd rfl (Or.inl rfl))) (fun _ _ _ _ _ => pts_nil) (fun _ _ _ _ _ => (pe_call G_is_below (hr.mono (by decide)) rfl d_is_below.g d_is_below.F.kp d_is_below.b .nil pass0 (pa_cons (pv 2) (pa_cons (pv 1) pa_nil))))) pa_nil)))), ?_⟩
      refine ⟨_, rfl, a, rfl, ⟨_, SqL.of ha⟩, fun q hq => ?_⟩
      refine lcPL (K := K) (fun x => V.bl (isBV n x)) hq (by rw [hx.len]; exact Nat.le_trans hl (by decide)) (SqL.of ha) (fun y hy H2 S2 Q2 kQ => el xs ds y H2 Q2 _ hx hy S2 kQ) (fun H2 e2 S2 => fin xs ds H2 q hx rfl S2 e2)
    | @tup a xs ds ha hx =>
      refine ⟨_, (pss_one (ps_ret (pe_callB (cr_all rfl) (by rfl) T.all PyProof.Rows.boot_all (pa_cons (pe_lc (own := [("value", 2)]) (g := gName 2) (tt := tYes) rfl sc_are_below.nd (pi_tup (pv 0)) (blkOk_by (N := N_are_below) (sc := defScope s_are_below) (by decide +kernel)) (fun _ _ _ _ _ => (pg_name (i := 2) sc_are_below.nd rfl (Or.inl rfl))) (fun _ _ _ _ _ => pts_nil) (fun _ _ _ _ _ => (pe_call G_is_below (hr.mono (by decide)) rfl d_is_below.g d_is_below.F.kp d_is_below.b .nil pass0 (pa_cons (pv 2) (pa_cons (pv 1) pa_nil))))) pa_nil)))), ?_⟩
      refine ⟨_, rfl, a, rfl, ⟨_, SqT.of ha⟩, fun q hq => ?_⟩
      refine lcPT (K := K) (fun x => V.bl (isBV n x)) hq (by rw [hx.len]; exact Nat.le_trans hl (by decide)) (SqT.of ha) (fun y hy H2 S2 Q2 kQ => el xs ds y H2 Q2 _ hx hy S2 kQ) (fun H2 e2 S2 => fin xs ds H2 q hx rfl S2 e2)
    | non => cases hS
    | bl b => cases hS
    | int i => cases hS
    | str z => cases hS
    | dct _ => cases hS
theorem ok_entry {f fi fn fb fs fr : Addr} {fd fdi fdn fdb fds fdr : FuncData} (A0 : Df K mg "_is_entry" s_is_entry f fd P_is_entry) (d_is_sequence : Df K mg "is_sequence" s_is_sequence fs fds P_is_sequence) (d_are_below : Df K mg "are_below" s_are_below fr fdr P_are_below) (d_is_below : Df K mg "is_below" s_is_below fb fdb P_is_below) (d_is_number : Df K mg "is_number" s_is_number fn fdn P_is_number) (d_is_integer : Df K mg "is_integer" s_is_integer fi fdi P_is_integer) (T : Txt mg) : FnOk P w K mg base CX0 5 f fd P_is_entry spEntry := by
  have G_is_sequence : FnOk P w K mg base CX0 1 fs fds P_is_sequence (spT1 isS) := ok_sequence d_is_sequence T
  have G_are_below : FnOk P w K mg base CX0 4 fr fdr P_are_below spAre := ok_are d_are_below d_is_below d_is_number d_is_integer T
  refine A0.F.ok sc_is_entry (fun vs H Q E h => ?_) (fun cdv A outer s H vs Q E hr h => ?_)
  · obtain ⟨x, d, A, n, rfl, _⟩ := h
    rfl
  · obtain ⟨x, d, A, n, rfl, D, hl, k⟩ := h
    refine ⟨_, (pss_one (ps_ret (pe_and (pe_call G_is_sequence (hr.mono (by decide)) rfl d_is_sequence.g d_is_sequence.F.kp d_is_sequence.b .nil pass0 (pa_cons (pv 0) pa_nil)) (pe_and (pe_cmpR op_eq (pe_callB call_len_seq (by rfl) T.len PySem.boot_len (pa_cons (pv 0) pa_nil)) (pv 1) (nomark _)) (pe_one (pe_call G_are_below (hr.mono (by decide)) rfl d_are_below.g d_are_below.F.kp d_are_below.b .nil pass0 (pa_cons (pv 0) (pa_cons (pv 2) pa_nil)))))))), ?_⟩
    refine ⟨_, rfl, x, d, rfl, D, fun H1 S1 => ⟨isS d, rfl, ?_⟩⟩
    have D1 := D.same S1
    have main : ∀ (a : Addr) (xs : List V) (ds : List PyData), x = .ref a → (SqL K H1 a xs ∨ SqT K H1 a xs) → itemsD d = ds → xs.length = ds.length → isS d = true →
        tAndV (tOp rEq (tCB (rLn K) (tCons (tVar 0) tNil)) (tVar 1)) (tCall spAre [] E0 (tCons (tVar 0) (tCons (tVar 2) tNil))) [some x, some (.int A), some (.int n)] H1 Q := by
      intro a xs ds ex hx hi hle hs
      refine ⟨_, rfl, a, xs, by rw [ex], hx, _, rfl, rfl, _, rfl, ?_⟩
      have e : (decide (V.int ((xs.length : Nat) : Int) = V.int A)) = decide ((ds.length : Int) = A) := by
        rw [hle]
        by_cases q : (ds.length : Int) = A
        · rw [decide_eq_true q, q]
          exact decide_eq_true rfl
        · rw [decide_eq_false q]
          exact decide_eq_false fun z => q (by injection z)
      show (if decide (V.int ((xs.length : Nat) : Int) = V.int A) = true then _ else _)
      rw [e]
      have kk : ∀ H', Same H1 H' → Q (.bl (decide ((ds.length : Int) = A) && ds.all (isB n))) H' := fun H' S' => by
        have z := k H' (S1.trans S')
        unfold isE at z
        rw [hs, Bool.true_and, hi] at z
        exact z
      by_cases q : (ds.length : Int) = A
      · rw [decide_eq_true q] at kk ⊢
        refine iteT ⟨_, rfl, _, rfl, x, d, n, rfl, D1, hs, hl, fun H2 S2 => ?_⟩
        rw [hi]
        have z := kk H2 S2
        rw [Bool.true_and] at z
        exact z
      · rw [decide_eq_false q] at kk ⊢
        exact iteF (kk H1 (Same.refl _))
    cases D1 with
    | @lst a xs ds ha hx => exact iteT (main a xs ds rfl (.inl (SqL.of ha)) rfl hx.len rfl)
    | @tup a xs ds ha hx => exact iteT (main a xs ds rfl (.inr (SqT.of ha)) rfl hx.len rfl)
    | non => exact iteF (k _ S1)
    | bl b => exact iteF (k _ S1)
    | int i => exact iteF (k _ S1)
    | str z => exact iteF (k _ S1)
    | dct _ => exact iteF (k _ S1)
end
end Lk

set_option Elab.async false
set_option linter.all false
set_option maxRecDepth 100000
set_option maxHeartbeats 2000000
namespace PySem
namespace ErrX
open PySem.W PySem.Calls PyProof.Rows PySem.HandSPX
/-! ### the text of __init__ -/
def iA (p1 p2 : Pos) : Arguments := { posonlyargs := [], args := [{ arg := "self", annotation := none, pos := p1 }, { arg := "at", annotation := none, pos := p2 }], vararg := none, kwonlyargs := [], kw_defaults := [], kwarg := none, defaults := [] }
def iB (q1 q2 q3 q4 : Pos) : List Stmt := [.Assign [.Attribute (.Name "self" q1) "at" q2] (.Name "at" q3) q4]
def iS : Scope := { kind := .function, names := [(PySem.Str.ofString "self", .local), (PySem.Str.ofString "at", .local)], isGenerator := false, isCoroutine := false, more := [] }
/-- what the written part says of Low, at C, and of its __init__, at fI -/
structure ErrTxt (K : Frag) (mg : Str → Option Value) (cn : Str) (qn : Str) (C fI : Addr) : Prop where
  gC : mg cn = some (.ref C)
  cls : ∃ nm q N bs bm sn sub ab col dd k0 k1 k2 k3 k5, K.lookup C = some (excClassObj nm q C N bs bm true sn sub ab col dd k0 k1 k2 k3 k5 "ValueError.__new__") ∧ refsVE bm = true
  sa : findIn K (.ref C) "__setattr__" = some (some (.builtin "object.__setattr__"))
  ga : findIn K (.ref C) "__getattribute__" = some (some (.builtin "BaseException.__getattribute__"))
  gg : findIn K (.ref C) "__getattr__" = some none
  noN : findIn K (.ref C) "at" = some none
  iC : findIn K (.ref C) "__init__" = some (some (.ref fI))
  tC : typeIn K (.ref fI) = some (.type "function")
  kC : keepIn K (.ref C) = true
  exC : subIn K (.ref C) (.type "BaseException") = some true
  tyC : typeIn K (.ref C) = some (.type "type")
  hdC : hasDictIn K C = true
  te : exmOne K (.ref C) (.ref C) = some true
  fn : ∃ (oc : Value) (od : Option Addr) (doc pm : Value) (an : Option Addr) (cdv ct : Value) (osl : Array (Option Value)) (p1 p2 q1 q2 q3 q4 : Pos),
    K.lookup fI = some ⟨oc, od, .func (fnOf "__init__" qn (iA p1 p2) (iB q1 q2 q3 q4) iS .none .none doc pm an cdv ct), osl⟩ ∧ codeIn K cdv qn = true
theorem one_size (v : Value) : [v].length ≤ sizeLine := by
  rw [sizeLine_eq]
  exact (by decide : 1 ≤ 16777216)
theorem kept_but {K : Frag} {h h' : Heap} {x : Addr} (X : K.In h) (hx : K.lookup x = none) (k : ∀ b o, b ≠ x → h.get? b = some o → h'.get? b = some o) : K.In h' := fun a o e =>
  k a o (fun z => by rw [z, hx] at e; cases e) (X a o e)
theorem ldC {M : Model} {s : Shared} {name : Str} {scope : Scope} {L a : Addr} {cd : Value} {m : Str → Option Value} {x : Str} {pos : Pos} {v : Value} {Q : Value → Shared → Prop} {A : Around} {E : Value → Shared → Prop} (hn : s.heap.Ns L m) (hv : m x = some v) (h : Q v s)
    (hk : scope.kind = .function := by rfl) (hl : (envOfC name scope L a cd).kindOf x = some .local := by rfl) (hd : (x == ("__debug__" : Str)) = false := by decide) :
    wpAny M A (eval (.Name x pos) (envOfC name scope L a cd)) Q E s := wpAny_Name (wpAny_loadName_local hk hl hn hv h) hd
/-- what __init__ leaves of a fresh exception at x -/
structure InitEnd (h h' : Heap) (x C dx t1 : Addr) (v : Value) : Prop where
  keep : ∀ b o, b ≠ x → h.get? b = some o → h'.get? b = some o
  obj : h'.get? x = some { cls := .ref C, dict := some dx, data := .fields #[.ref t1, .none, .none, .none, .bool false, .none] }
  dbig : h.objs.size ≤ dx
  dne : dx ≠ x
  ns : h'.Ns1 dx (fun y => if y = "at" then some v else none)
/-- a made Low -/
structure OwnMade (h h' : Heap) (e C d : Addr) (v : Value) : Prop where
  keep : ∀ b o, h.get? b = some o → h'.get? b = some o
  new : h.objs.size ≤ e
  obj : ∃ oe vs, h'.get? e = some oe ∧ oe.cls = .ref C ∧ oe.dict = some d ∧ oe.data = .fields vs ∧ vs[1]? = some .none
  dbig : h.objs.size ≤ d
  dne : d ≠ e
  ns : h'.Ns1 d (fun y => if y = "at" then some v else none)
section
variable {prog : Program} {w : World} {A : Around} {E : Value → Shared → Prop} {R : Result → Shared → Prop} {s : Shared} {K : Frag} {mg : Str → Option Value} {C fI : Addr} {cn qn : Str}
theorem low_init (T : ErrTxt K mg cn qn C fI) {x t0 : Addr} {v : Value} (X : K.In s.heap) (hlim : s.heap.NoLimit) (hx : s.heap.get? x = some (excO C t0)) (hnx : K.lookup x = none) (hroom : A.depth < recursionLimit)
    (hq : ∀ h' tk dx, InitEnd s.heap h' x C dx t0 v → R (.ok (.ret .none)) { s with heap := h', toks := tk }) :
    codeAny (model prog w) A (.call (.ref fI) ⟨[.ref x, v], []⟩) R s := by
  obtain ⟨oc, od, doc, pm, an, cdv, ct, osl, p1, p2, q1, q2, q3, q4, ho, hcd⟩ := T.fn
  obtain ⟨nm, q, N, bs, bm, sn, sub, ab, col, dd, k0, k1, k2, k3, k5, hC, hbm⟩ := T.cls
  have hcl : clsIn K C = some { name := nm, bases := bs, mro := .ref C :: bm, ns := N, qualname := q, hasDict := true, slotNames := sn, subclasses := sub, abstract := ab, collection := col, hasDel := false } := by unfold clsIn; rw [hC] <;> rfl
  refine Att.call_fn (binds := [("self", .ref x), ("at", v)]) X hlim ho hcd hroom (BindsTo.of_eq (by first | rfl | with_unfolding_all rfl)) (by first | rfl | decide | with_unfolding_all rfl) (fun s₁ IC => ?_) rfl rfl rfl
  obtain ⟨h₁, tk₁, rfl⟩ := IC.toInCall.same
  have k : ∀ b o, s.heap.get? b = some o → h₁.get? b = some o := IC.toInCall.keep
  have hn := IC.toInCall.ns
  have hxL : s.heap.objs.size ≠ x := Nat.ne_of_gt (Heap.lt_size hx)
  have X₁ : K.In h₁ := X.keeps k
  have hx₁ := k _ _ hx
  -- self.by = by
  show wpAny _ _ (execs _ _) _ _ _
  refine wpAny_execs_cons (plainObj_wpAny_Assign_Attribute ?_)
  refine ldC (v := v) hn (by first | rfl | with_unfolding_all rfl | kernel_rfl) (ldC (v := .ref x) hn (by first | rfl | with_unfolding_all rfl | kernel_rfl) ?_)
  refine set_plain X₁ (ox := excO C t0) (od := none) ⟨hx₁, rfl, rfl, trivial⟩ T.sa ?_
  refine exc_osa X₁ hx₁ hcl (show refsVE (.ref C :: bm) = true from hbm) rfl T.noN (fun h₃ tk₃ dx k₃ dn dne hx₃ hn₃ => ?_)
  show wpAny _ _ (execs _ _) _ _ _
  have z : s.heap.objs.size < h₁.objs.size := hn.lt
  exact wpAny_execs_nil (hq h₃ tk₃ dx ⟨fun b o hb e => k₃ b o hb (k b o e), hx₃, Nat.le_of_lt (Nat.lt_of_lt_of_le z dn), dne, hn₃⟩)
theorem low_made (T : ErrTxt K mg cn qn C fI) {v : Value} (X : K.In s.heap) (hlim : s.heap.NoLimit) (hroom : A.depth + 1 < recursionLimit)
    (hq : ∀ h' tk e d, OwnMade s.heap h' e C d v → R (.ok (.ret (.ref e))) { s with heap := h', toks := tk }) :
    codeAny (model prog w) A (.call (.ref C) ⟨[v], []⟩) R s := by
  obtain ⟨nm, q, N, bs, bm, sn, sub, ab, col, dd, k0, k1, k2, k3, k5, hC, hbm⟩ := T.cls
  obtain ⟨hp, g, dr, tk, os⟩ := s
  have k : ∀ b o, hp.get? b = some o → ((hp.push (kdv_tup [v])).push (excO C hp.objs.size)).get? b = some o := fun b o e => Heap.get?_push_of_some _ (Heap.get?_push_of_some _ e)
  have hget : ((hp.push (kdv_tup [v])).push (excO C hp.objs.size)).get? (hp.objs.size + 1) = some (excO C hp.objs.size) := by heap_get
  have hnx : K.lookup (hp.objs.size + 1) = none := by
    cases e : K.lookup (hp.objs.size + 1) with
    | none => rfl
    | some o =>
      have z : hp.get? (hp.objs.size + 1) = some o := X _ _ e
      exact absurd (Nat.lt_of_succ_lt (Heap.lt_size z)) (Nat.lt_irrefl _)
  refine call_own F.excBase_ValueError (fun X => refsVE_contains X bm hbm) (X _ _ hC) (looks_findIn X T.iC) (fun self => bind_fn X self T.tC) (one_size v) ?_
  refine low_init (s := ⟨(hp.push (kdv_tup [v])).push (excO C hp.objs.size), g, dr, tk, os⟩) T (X.keeps k) (hlim.keeps k) hget hnx ?_ fun h' tk' dx ⟨k', hx, dn, dne, hns⟩ => ?_
  · show A.depth + 1 < recursionLimit
    exact hroom
  · have old : ∀ b o, hp.get? b = some o → h'.get? b = some o := fun b o e => k' b o (Nat.ne_of_lt (Nat.lt_succ_of_lt (Heap.lt_size e))) (k b o e)
    have z : hp.objs.size + 1 + 1 ≤ dx := by
      first
        | (simpa only [Heap.size_push] using dn)
        | exact dn
        | (have q := dn; rw [Heap.size_push, Heap.size_push] at q; exact q)
    exact ⟨rfl, hq h' tk' (hp.objs.size + 1) dx ⟨old, Nat.le_succ _, ⟨_, _, hx, rfl, rfl, rfl, rfl⟩, Nat.le_trans (Nat.le_trans (Nat.le_succ _) (Nat.le_succ _)) z, dne, hns⟩⟩
end
end ErrX
end PySem
namespace L2
open PySem PySem.Spec PyProof.Rows
theorem relO_low {v : V} {v' : Value} (r : RelV v v') (f : Str) : RelO (List.lookup f [(("at" : Str), v)]) (if f = "at" then some v' else none) := by
  by_cases hw : f = "at"
  · subst hw
    rw [if_pos rfl]
    have q : List.lookup ("at" : Str) [(("at" : Str), v)] = some v := by simp [List.lookup]
    rw [q]
    exact r
  · rw [if_neg hw]
    have qw : (f == ("at" : Str)) = false := by simpa using hw
    have q2 : List.lookup f [(("at" : Str), v)] = none := by simp [List.lookup, qw]
    rw [q2]
    trivial
section
variable {X : Cx} {C fI : Addr} {cn qn : Str}
/-- Low(e) -/
def tMkLow (C : Addr) (ta : TA) : St → Hp → XK → Prop := fun σ H Q => ta σ H fun vs H1 => ∃ v, vs = [v] ∧ ∀ d, H1 d = none → Q (.ref C) (some d) (upd H1 d (.xd [(("at" : Str), v)]))
theorem pmk_low {a : Expr} {ta : TA} {p pos : Pos} {k : Nat} (T : PySem.ErrX.ErrTxt X.K X.mg cn qn C fI) (hr : Room k X.A) (ha : PA X [a] ta) (hg : Gl X cn) (hdb : (cn == ("__debug__" : Str)) = false := by decide)
    (he : starEach (a :: []) X.env = (false, eval a X.env) :: starEach [] X.env := by rfl) (hpl : (backTo pos (starEach [] X.env)).any (·.1) = false := by rfl) :
    PMk X (.Call (.Name cn p) [a] [] pos) (tMkLow C ta) := by
  intro pins s σ H Q I h
  refine wpAny_Call_Name_kw (ld_glob I hg T.gC ?_ hdb)
  refine PySem.W.callWith_K (h₀ := X.base) I.ok.mod.kin T.kC (thn (ha.run pos pins s σ H _ I h) fun us s1 hh => ?_) he hpl
  obtain ⟨vs, H1, I1, r1, v, ev, q1⟩ := hh
  subst ev
  refine ⟨I1.kIn, ?_⟩
  cases r1 with
  | cons rv rn =>
    rename_i v' us'
    cases rn
    show wpAny _ _ (call (.ref C) [v']) _ _ _
    have hlim := I1.nolimit
    obtain ⟨hp, g, dr, tk, os⟩ := s1
    refine wpAny_call (PySem.ErrX.low_made T I1.kIn hlim (by have := hr.dp; omega) fun h' tk' e d M => ?_)
    show MkP X pins σ Q (.ref e) ⟨h', g, dr, tk', os⟩
    obtain ⟨oe, fv, hoe, hc, hd, hdat, h1⟩ := M.obj
    have hns := M.ns
    obtain ⟨G', g1, g2⟩ := restrict h' fun b => decide (b ≠ e)
    have gk : ∀ b, b ≠ e → G'.get? b = h'.get? b := fun b hb => g1 b (decide_eq_true hb)
    have ge : G'.get? e = none := g2 e (by simp)
    have old : ∀ b o, hp.get? b = some o → G'.get? b = some o := fun b o q => (gk b (Nat.ne_of_lt (Nat.lt_of_lt_of_le (Heap.lt_size q) M.new))).trans (M.keep b o q)
    have ob : ObjOk X.prog X.w (upd H1 d (.xd [(("at" : Str), v)])) G' d (.xd [(("at" : Str), v)]) :=
      ⟨_, hns.at (fun o q => (gk d M.dne).trans q), fun f => relO_low rv f⟩
    have J : Inv X pins σ (upd H1 d (.xd [(("at" : Str), v)])) ⟨G', g, dr, tk', os⟩ := I1.laid (t' := tk') old M.dbig ob
    refine ⟨e, oe, fv, ⟨G', g, dr, tk', os⟩, _, .ref C, some d, rfl, J, fun b o q => ?_, ge, hoe, ⟨hc, hd⟩, hdat, h1, ?_, rfl, I1.bare, raises_own T.exC T.tyC, q1 d (I1.hok.fresh M.dbig)⟩
    · by_cases hb : b = e
      · have q' : G'.get? b = some o := q
        rw [hb, ge] at q'; cases q'
      · exact (gk b hb).symm.trans q
    · rw [upd_ne (Ne.symm M.dne)]
      exact I1.hok.fresh M.new
/-- raise Low(e) -/
def tRaiseLow (C : Addr) (W : WX) (ta : TA) : TS := fun _ σ H => tMkLow C ta σ H fun cls d H' => W cls d σ H'
theorem ps_raiseLow {a : Expr} {ta : TA} {W : WX} {p pos pos2 : Pos} {k : Nat} (hc : X.calm = true) (T : PySem.ErrX.ErrTxt X.K X.mg cn qn C fI) (hr : Room k X.A) (tk : Takes X W) (ha : PA X [a] ta) (hg : Gl X cn) (hdb : (cn == ("__debug__" : Str)) = false := by decide)
    (he : starEach (a :: []) X.env = (false, eval a X.env) :: starEach [] X.env := by rfl) (hpl : (backTo pos (starEach [] X.env)).any (·.1) = false := by rfl) :
    PS X (.Raise (some (.Call (.Name cn p) [a] [] pos)) none pos2) (tRaiseLow C W ta) := ps_raise hc tk (pmk_low T hr ha hg hdb he hpl)
/-- low.by, low the exception that the suite holds (at a; its class cls, its dict d) -/
def tByLow (C : Addr) (a : Addr) (cls : Value) (d : Option Addr) (te : TE) : TE := fun σ H Q => te σ H fun x H1 => x = .ref a ∧ cls = .ref C ∧ ∃ (dd : Addr) (v : V), d = some dd ∧ H1 dd = some (.xd [(("at" : Str), v)]) ∧ Q v H1
theorem pe_byLow {a : Addr} {oe : Obj} {cls : Value} {d : Option Addr} {pn : List (Addr × Obj)} {e : Expr} {te : TE} {pos : Pos} (T : PySem.ErrX.ErrTxt X.K X.mg cn qn C fI) (hz : Zc cls d oe) (hf : ∃ vs, oe.data = .fields vs) (he : PE (X.suite a ((a, oe) :: pn)) e te)
    (hb : attributeBase e "at" X.env (eval e X.env) = eval e X.env := by rfl) :
    PE (X.suite a ((a, oe) :: pn)) (.Attribute e "at" pos) (tByLow C a cls d te) := by
  refine ⟨fun pins s σ H Q I h => ?_⟩
  refine attr_of hb (thn (he.run pins s σ H _ I h) fun u s1 hh => ?_)
  obtain ⟨x, H1, I1, rx, ex, ec, dd, v, ed, ea, q⟩ := hh
  subst ex
  obtain rfl : u = Value.ref a := rx
  subst ec
  subst ed
  obtain ⟨ha, _⟩ := I1.pin (a, oe) (List.mem_append_left _ List.mem_cons_self)
  obtain ⟨vs, hd⟩ := hf
  have hx : ObjOk X.prog X.w H1 s1.heap dd (.xd [(("at" : Str), v)]) := I1.hok dd _ ea
  obtain ⟨mA, hns, hr⟩ := hx
  obtain ⟨od, ho, hl⟩ := lookIn_ns hns
  have l : List.lookup ("at" : Str) [(("at" : Str), v)] = some v := by simp [List.lookup]
  obtain ⟨u, hu, ru⟩ := RelO.some_of (v := v) (o := mA "at") (by rw [← l]; exact hr "at")
  have J : PySem.W.InstAt s1.heap a oe C (some od) := ⟨ha, hz.1, by unfold PySem.W.notCls; rw [hd] <;> rfl, by rw [hz.2]; exact ho⟩
  exact HandSPX.exc_get I1.kIn J T.ga T.gg T.exC (PySem.W.findObj_own T.hdC T.noN rfl (by rw [hl, hu])) (handed_of ru) ⟨v, H1, I1.tok _, ru, q⟩
end
end L2


set_option Elab.async false
set_option linter.all false
set_option maxRecDepth 100000
set_option maxHeartbeats 4000000
namespace Lk
open PySem L2
abbrev s_Machine___init : Stmt := inClass (top 12) 0
abbrev N_Machine___init : List Str := ["self", "commands", "steps", "state", "entry"]
abbrev P_Machine___init : List Str := ["self", "commands", "steps"]
theorem sc_Machine___init : FnScope N_Machine___init P_Machine___init (defScope s_Machine___init) := ⟨rfl, rfl, rfl, by decide +kernel, rfl, by decide +kernel, by decide +kernel⟩
section
variable {K : PySem.W.Frag} {j : Nat} {te : TE} {σ : St} {H1 : Hp} {D : Addr} {Qd : Hp → Prop}
theorem lcTT {a : Addr} {xs : List V} (S : Addr → Prop) (I : Hp → Prop) (f : Nat → V → Hp → Prop) (hD : H1 D = none) (hS : ¬ S D) (hn : xs.length ≤ 1000000) (hI : I H1) (mI : ∀ H o, I H → I (upd H D o))
    (mf : ∀ i y H H', KP (fun a => S a ∨ a = D) H H' → f i y H → f i y H') (ha : ∀ H, KP S H1 H → SqT K H a xs)
    (hs : ∀ i x H acc, xs[i]? = some x → I H → KP S H1 H → H D = some (.lst acc) → ∀ Q : VK, (∀ y H4, I H4 → KP S H H4 → f i y H4 → Q y H4) → te ((wipe σ [j]).set j (some x)) H Q)
    (hd : ∀ ys H', ys.length = xs.length → (∀ i y, ys[i]? = some y → f i y H') → H' D = some (.lst ys) → I H' → KP S H1 H' → Qd H') :
    ∃ W : Nat → Nat → Hp → Prop, (∃ m, W 0 m (upd H1 D (.lst []))) ∧ ∀ i m H, W i m H →
      ((Itt K a).stop i H ∧ Qd H) ∨ ((Itt K a).go i H ∧ ∃ Nx : Hp → Prop, (∀ H', Nx H' → ∃ m', m' < m ∧ W (i + 1) m' H') ∧ ∀ x H', (Itt K a).yld i H x H' → gName j x (wipe σ [j]) H' fun σ2 H2 => wipe σ2 [j] = wipe σ [j] ∧ tYes σ2 H2 fun b H3 =>
        if b = true then te σ2 H3 fun y H4 => ∃ acc, H4 D = some (.lst acc) ∧ acc.length < sizeLine ∧ Nx (upd H4 D (.lst (acc ++ [y]))) else Nx H3) := by
  refine lc_tup (xs := xs) (Lcp S I f H1 D) (Lcp.zero hD mI hI) (fun i H _ x => ha H x.2.1) (fun i x0 H hi x => ?_) (fun H x => ?_)
  · have hi' : i < xs.length := (List.getElem?_eq_some_iff.mp hi).1
    refine ⟨wipe1 _ _ _, iteT (B := Lcp S I f H1 D (i + 1) H) ?_⟩
    obtain ⟨acc, e⟩ : ∃ acc, H D = some (.lst acc) := by
      obtain ⟨_, _, ys, e, _⟩ := x
      exact ⟨ys, e⟩
    exact hs i x0 H acc hi x.1 x.2.1 e _ fun y H4 h1 h2 h3 => x.step hD hS mI mf (by omega) h1 h2 h3
  · obtain ⟨h1, h2, ys, e, hl, hf⟩ := x
    exact hd ys H hl hf e h1 h2
end
/-! ### a machine's making, as data -/
def badC : PyData → Bool
  | .int i => decide (i ≤ 0)
  | _ => true
def badAt (A n : Int) : List PyData → Nat → Option Nat
  | [], _ => none
  | e :: r, i => if isE A n e = true then badAt A n r (i + 1) else some i
/-- the number of the refusal, if the commands are right -/
def stepsRes (A : Int) (d : PyData) : Option Int :=
  if isS d = false ∨ itemsD d = [] then some 1 else (badAt A ((itemsD d).length : Int) (itemsD d) 0).map fun i => 2 + (i : Int)
def intD : PyData → Int
  | .int i => i
  | _ => 0
def rowD (e : PyData) : List Int := (itemsD e).map intD
theorem badAt_cons {A n : Int} {e : PyData} {r : List PyData} {i : Nat} : badAt A n (e :: r) i = if isE A n e = true then badAt A n r (i + 1) else some i := rfl
theorem badAt_none {A n : Int} : ∀ {ds : List PyData} {i : Nat}, badAt A n ds i = none → ∀ e ∈ ds, isE A n e = true
  | [], _, _, e, h => nomatch h
  | d :: ds, i, h, e, he => by
    unfold badAt at h
    by_cases hE : isE A n d = true
    · rw [if_pos hE] at h
      rcases List.mem_cons.mp he with z | z
      · rw [z]
        exact hE
      · exact badAt_none h e z
    · rw [if_neg hE] at h
      cases h
theorem drop_get {α : Type} : ∀ {xs : List α} {i : Nat} {x : α}, xs[i]? = some x → xs.drop i = x :: xs.drop (i + 1)
  | [], _, _, h => by simp at h
  | y :: xs, 0, x, h => by
    have e : y = x := Option.some.inj h
    rw [e]
    rfl
  | y :: xs, i + 1, x, h => drop_get (xs := xs) (i := i) h
theorem DvAll.ints {H : Hp} {n : Int} : ∀ {xs : List V} {ds : List PyData}, DvAll H xs ds → ds.all (isB n) = true → xs = (ds.map intD).map V.int
  | _, _, .nil, _ => rfl
  | _, _, .cons (d := d) h t, e => by
    rw [List.all_cons, Bool.and_eq_true] at e
    rw [DvAll.ints t e.2]
    cases h with
    | int i => rfl
    | non => cases e.1
    | bl b => cases e.1
    | str b => cases e.1
    | lst _ _ => cases e.1
    | tup _ _ => cases e.1
    | dct _ => cases e.1
theorem entry_read {H : Hp} {y : V} {e : PyData} {A n : Int} (h : Dv H y e) (hE : isE A n e = true) : ∃ (b : Addr) (zs : Unit), y = .ref b ∧ (H b = some (.lst ((rowD e).map V.int)) ∨ H b = some (.tup ((rowD e).map V.int))) := by
  unfold isE at hE
  rw [Bool.and_eq_true, Bool.and_eq_true] at hE
  obtain ⟨h1, _, h3⟩ := hE
  cases h with
  | @lst b xs ds hb hx => exact ⟨b, (), rfl, .inl (by rw [hb, hx.ints h3] <;> rfl)⟩
  | @tup b xs ds hb hx => exact ⟨b, (), rfl, .inr (by rw [hb, hx.ints h3] <;> rfl)⟩
  | non => cases h1
  | int _ => cases h1
  | bl b => cases h1
  | str b => cases h1
  | dct _ => cases h1
/-! ### machines in the heap -/
def fldM (A n : Int) (t : Addr) : List (Str × V) := putF "steps" (.ref t) (putF "states" (.int n) (putF "commands" (.int A) []))
/-- at m a machine of the class at C with A commands and these rows -/
def MachAt (C : Addr) (H : Hp) (m : Addr) (A : Int) (us : List (Addr × List Int)) : Prop :=
  ∃ dx t, H m = some (.ins C dx (fldM A (us.length : Int) t)) ∧ H t = some (.tup (us.map fun u => V.ref u.1)) ∧ ∀ u ∈ us, H u.1 = some (.tup (u.2.map V.int))
/-- what the top says of the class -/
structure TxC (K : PySem.W.Frag) (C : Addr) : Prop where
  cl : Cls K C
  n1 : NoAttr K C "commands"
  n2 : NoAttr K C "states"
  n3 : NoAttr K C "steps"
def spInit (CM CE : Addr) : Sp := fun vs H Q E => ∃ (m dx : Addr) (x y : V) (dc ds : PyData), vs = [.ref m, x, y] ∧ H m = some (.ins CM dx []) ∧ Dv H x dc ∧ Dv H y ds ∧ (itemsD ds).length ≤ 1000 ∧ (∀ e ∈ itemsD ds, (itemsD e).length ≤ 1000) ∧
  (badC dc = true → ∀ H' d, Same H H' → H' d = none → E (.ref CE) (some d) (upd H' d (.xd [(("at" : Str), .int 0)]))) ∧
  (badC dc = false → ∀ A, dc = .int A → match stepsRes A ds with
    | some k => ∀ H' d, Same H H' → H' d = none → E (.ref CE) (some d) (upd H' d (.xd [(("at" : Str), .int k)]))
    | none => ∀ H' us, KP (fun b => b = m) H H' → MachAt CM H' m A us → us.map (·.2) = (itemsD ds).map rowD → Q .non H')
section
variable {P : Program} {w : World} {K : PySem.W.Frag} {mg : Str → Option Value} {base : Heap}
theorem ok_init {f fi fn fb fs fr fe CM CE fCE : Addr} {fd fdi fdn fdb fds fdr fde : FuncData} (F : Fun K "__init__" "Machine.__init__" s_Machine___init f fd) (d_is_entry : Df K mg "_is_entry" s_is_entry fe fde P_is_entry) (d_is_sequence : Df K mg "is_sequence" s_is_sequence fs fds P_is_sequence) (d_are_below : Df K mg "are_below" s_are_below fr fdr P_are_below) (d_is_below : Df K mg "is_below" s_is_below fb fdb P_is_below) (d_is_number : Df K mg "is_number" s_is_number fn fdn P_is_number) (d_is_integer : Df K mg "is_integer" s_is_integer fi fdi P_is_integer)
    (T : Txt mg) (TC : TxC K CM) (TE : PySem.ErrX.ErrTxt K mg "InvalidMachine" "InvalidMachine.__init__" CE fCE) : FnOk P w K mg base (L2.CX P w) 7 f fd P_Machine___init (spInit CM CE) := by
  have G_is_sequence : FnOk P w K mg base CX0 1 fs fds P_is_sequence (spT1 isS) := ok_sequence d_is_sequence T
  have G_is_number : FnOk P w K mg base CX0 2 fn fdn P_is_number (spT1 isN) := ok_number d_is_number d_is_integer T
  have G_is_entry : FnOk P w K mg base CX0 5 fe fde P_is_entry spEntry := ok_entry d_is_entry d_is_sequence d_are_below d_is_below d_is_number d_is_integer T
  refine F.okX sc_Machine___init (fun vs H Q E h => ?_) (fun cdv Ar outer s H vs Q E hr h => ?_)
  · obtain ⟨m, dx, x, y, dc, ds, rfl, _⟩ := h
    rfl
  · obtain ⟨m, dx, x, y, dc, ds, rfl, hm, Dx, Dy, hz1, hz2, kB, kG⟩ := h
    cases id Dy with
    | @lst a xs ds' ha hx => 
      refine ⟨_, (pss_cons (ps_if (PW.pt (pw_or (pt_not (pt_val (pe_call G_is_number (hr.mono (by decide)) rfl d_is_number.g d_is_number.F.kp d_is_number.b .nil pass0 (pa_cons (pv 1) pa_nil)))) (pw_or1 (pt_cmpR op_eq (pv 1) pe_int (nomark _))))) (pss_one (ps_raiseLow rfl TE hr (takes_of rfl rfl rfl rfl) (pa_cons pe_int pa_nil) (by rfl))) pss_nil)
    (pss_cons (ps_if (PW.pt (pw_or (pt_not (pt_val (pe_call G_is_sequence (hr.mono (by decide)) rfl d_is_sequence.g d_is_sequence.F.kp d_is_sequence.b .nil pass0 (pa_cons (pv 2) pa_nil)))) (pw_or1 (pt_cmpR op_eq (pe_callB call_len_seq (by rfl) T.len PySem.boot_len (pa_cons (pv 2) pa_nil)) pe_int (nomark _))))) (pss_one (ps_raiseLow rfl TE hr (takes_of rfl rfl rfl rfl) (pa_cons pe_int pa_nil) (by rfl))) pss_nil)
    (pss_cons (ps_for (passes_of rfl) rfl (pi_enum (by rfl) T.enumerate (pa_cons (pv 2) pa_nil)) (pg_tup rfl (pgs_cons (pg_name (i := 3) sc_Machine___init.nd rfl (Or.inl rfl)) (pgs_cons (pg_name (i := 4) sc_Machine___init.nd rfl (Or.inl rfl)) pgs_nil)))
      (pss_one (ps_if (pt_not (pt_val (pe_call G_is_entry (hr.mono (by decide)) rfl d_is_entry.g d_is_entry.F.kp d_is_entry.b .nil pass0 (pa_cons (pv 4) (pa_cons (pv 1) (pa_cons (pe_callB call_len_seq (by rfl) T.len PySem.boot_len (pa_cons (pv 2) pa_nil)) pa_nil)))))) (pss_one (ps_raiseLow rfl TE hr (takes_of rfl rfl rfl rfl) (pa_cons (pe_op op_add pe_int (pv 3)) pa_nil) (by rfl))) pss_nil)))
    (pss_cons (ps_fld (pv 0) (pv 1) rfl)
    (pss_cons (ps_fld (pv 0) (pe_callB call_len_seq (by rfl) T.len PySem.boot_len (pa_cons (pv 2) pa_nil)) rfl)
    (pss_one (ps_fld (pv 0) (pe_tupleOf (by rfl) T.tuple (pe_lc (own := [("entry", 4)]) (g := gName 4) (tt := tYes) (te := tThen (tVar 4) (kTup K)) rfl sc_Machine___init.nd (pi_list (pv 2)) (blkOk_by (N := N_Machine___init) (sc := defScope s_Machine___init) (by decide +kernel)) (fun _ _ _ _ _ => (pg_name (i := 4) sc_Machine___init.nd rfl (Or.inl rfl))) (fun _ _ _ _ _ => pts_nil) (fun _ _ _ _ _ => (pe_tupleOf (by rfl) T.tuple (pv 4))))) rfl))))))), ?_⟩
      have hne : a ≠ m := fun e => by
        rw [e, hm] at ha
        cases ha
      refine ⟨_, rfl, x, dc, rfl, Dx, fun H1 S1 => ⟨isN dc, rfl, ?_⟩⟩
      have hlen : xs.length = ds'.length := hx.len
      -- the first test
      by_cases hb : badC dc = true
      · have kb := kB hb
        have hN : ∀ i, dc = .int i → i ≤ 0 := fun i e => by
          rw [e] at hb
          exact of_decide_eq_true hb
        cases Dx with
        | int i =>
          have i0 := hN i rfl
          show (if (!decide (0 ≤ i)) = true then _ else _)
          by_cases h0 : 0 ≤ i
          · have e0 : i = 0 := by omega
            rw [decide_eq_true h0]
            refine iteF ⟨_, rfl, rfl, _, rfl, ?_⟩
            rw [e0]
            refine iteT ⟨_, rfl, fun q hq => kb H1 q S1 hq⟩
          · rw [decide_eq_false h0]
            exact iteT (iteT ⟨_, rfl, fun q hq => kb H1 q S1 hq⟩)
        | non => exact iteT (iteT ⟨_, rfl, fun q hq => kb H1 q S1 hq⟩)
        | bl b => exact iteT (iteT ⟨_, rfl, fun q hq => kb H1 q S1 hq⟩)
        | str b => exact iteT (iteT ⟨_, rfl, fun q hq => kb H1 q S1 hq⟩)
        | lst _ _ => exact iteT (iteT ⟨_, rfl, fun q hq => kb H1 q S1 hq⟩)
        | tup _ _ => exact iteT (iteT ⟨_, rfl, fun q hq => kb H1 q S1 hq⟩)
        | dct _ => exact iteT (iteT ⟨_, rfl, fun q hq => kb H1 q S1 hq⟩)
      obtain ⟨A, rfl, A0⟩ : ∃ A : Int, dc = .int A ∧ 0 < A := by
        cases dc with
        | int i => exact ⟨i, rfl, by have : ¬ i ≤ 0 := fun q => hb (decide_eq_true q); omega⟩
        | none => exact absurd rfl hb
        | bool _ => exact absurd rfl hb
        | str _ => exact absurd rfl hb
        | list _ => exact absurd rfl hb
        | tuple _ => exact absurd rfl hb
        | dict _ => exact absurd rfl hb
      have kG' := kG (by simpa using hb) A rfl
      obtain rfl : x = V.int A := by cases Dx; rfl
      show (if (!decide (0 ≤ A)) = true then _ else _)
      rw [decide_eq_true (show 0 ≤ A by omega)]
      refine iteF ⟨_, rfl, rfl, _, rfl, ?_⟩
      rw [decide_eq_false (show ¬ V.int A = V.int 0 from fun e => by injection e with e; omega)]
      refine iteF ?_
      -- the second test
      refine ⟨_, rfl, .ref a, _, rfl, Dy.same S1, fun H2 S2 => ⟨true, rfl, iteF ⟨_, rfl, a, xs, rfl, .inl (SqL.of ((S1.trans S2) _ _ ha)), rfl, _, rfl, ?_⟩⟩⟩
      have S12 := S1.trans S2
      cases hds : ds' with
      | nil =>
        have hx0 : xs.length = 0 := by rw [hlen, hds]; rfl
        rw [hx0]
        refine iteT ⟨_, rfl, fun q hq => ?_⟩
        have e : stepsRes A (.list ds') = some 1 := by rw [hds] <;> rfl
        rw [e] at kG'
        exact kG' H2 q S12 hq
      | cons d0 dr =>
      have hpos : 0 < ds'.length := by rw [hds]; simp
      rw [decide_eq_false (show ¬ V.int ((xs.length : Nat) : Int) = V.int 0 from fun e => by injection e with e; omega)]
      refine iteF ?_
      have eR : stepsRes A (.list ds') = (badAt A (ds'.length : Int) ds' 0).map fun i => 2 + (i : Int) := by
        unfold stepsRes
        rw [if_neg (by rw [hds]; intro z; rcases z with z | z <;> cases z)]
        rfl
      rw [eR] at kG'
      refine ⟨_, rfl, a, xs, rfl, SqL.of (S12 _ _ ha), for_enumL (K := K) (a := a) (xs := xs) (fun i σ H3 => ∃ v3 v4 : Option V, σ = [some (.ref m), some (.int A), some (.ref a), v3, v4] ∧ Same H H3 ∧ badAt A (ds'.length : Int) ds' 0 = badAt A (ds'.length : Int) (ds'.drop i) i) ⟨none, none, rfl, S12, rfl⟩ (fun i σ H3 ⟨_, _, _, S, _⟩ => SqL.of (S _ _ ha)) ?_ ?_⟩
      · rintro i y σ H3 t hi ⟨v3, v4, rfl, S3, eb⟩ ht
        obtain ⟨e, he, De⟩ := hx.get hi
        have S4 : Same H (upd H3 t (HO.tup [V.int ((i : Nat) : Int), y])) := S3.trans (Same.new ht)
        refine ⟨t, _, rfl, SqT.of upd_same, rfl, _, _, rfl, _, _, rfl, rfl, ?_⟩
        refine ⟨_, rfl, _, rfl, _, rfl, a, xs, rfl, .inl (SqL.of (S4 _ _ ha)), y, e, A, _, rfl, De.same S4, Nat.le_trans (hz2 e (mem_of_get he)) (by decide), fun H5 S5 => ⟨isE A ((xs.length : Nat) : Int) e, rfl, ?_⟩⟩
        rw [drop_get he] at eb
        rw [hlen]
        rw [badAt_cons] at eb
        by_cases hE : isE A (ds'.length : Int) e = true
        · rw [if_pos hE] at eb
          rw [hE]
          exact iteF ⟨_, _, rfl, S4.trans S5, eb⟩
        · rw [if_neg hE] at eb
          rw [show isE A (ds'.length : Int) e = false by simpa using hE]
          refine iteT ⟨_, rfl, _, _, rfl, rfl, _, rfl, fun q hq => ?_⟩
          rw [eb] at kG'
          exact kG' H5 q (S4.trans S5) hq
      · rintro σ H3 ⟨v3, v4, rfl, S3, eb⟩
        rw [hlen, List.drop_length] at eb
        rw [show badAt A (ds'.length : Int) ds' 0 = none from eb] at kG'
        have okE : ∀ e ∈ ds', isE A (ds'.length : Int) e = true := badAt_none eb
        have hm3 : H3 m = some (.ins CM dx []) := S3 _ _ hm
        -- the fields
        refine ⟨_, rfl, _, rfl, m, CM, dx, [], rfl, hm3, TC.cl, TC.n1, (by show 0 < 1000; decide), ?_⟩
        have hkm : ∀ {o : HO}, KP (fun b => b = m) H (upd H3 m o) := (KP.same (S := fun b => b = m) S3).trans (kp_upd rfl)
        refine ⟨_, rfl, a, xs, rfl, .inl (SqL.of (hkm.get hne ha)), _, rfl, m, CM, dx, _, rfl, upd_same, TC.cl, TC.n2, (by show 1 < 1000; decide), ?_⟩
        have hkm2 : ∀ {o1 o2 : HO}, KP (fun b => b = m) H (upd (upd H3 m o1) m o2) := ((KP.same (S := fun b => b = m) S3).trans (kp_upd rfl)).trans (kp_upd rfl)
        refine ⟨_, rfl, a, rfl, ⟨_, SqL.of (hkm2.get hne ha)⟩, fun D hD => ?_⟩
        have nDm : D ≠ m := fun e => by
          rw [e, upd_same] at hD
          cases hD
        have hD0 : H D = none := hkm2.free nDm hD
        refine lcL (K := K) (xs := xs) (fun _ => False) (fun H' => True) (fun i y H' => ∃ u : Addr × List Int, y = V.ref u.1 ∧ u.1 ≠ D ∧ u.1 ≠ m ∧ H' u.1 = some (.tup (u.2.map V.int)) ∧ ∃ e, ds'[i]? = some e ∧ u.2 = rowD e) hD id (by rw [hlen]; exact Nat.le_trans hz1 (by decide)) trivial (fun _ _ _ => trivial)
          (fun i y H' H'' kk ⟨u, e1, e2, e3, e4, e5⟩ => ⟨u, e1, e2, e3, kk.get (fun z => z.elim id e2) e4, e5⟩) (fun H' kk => SqL.of (kk.get id (hkm2.get hne ha))) (fun i y H4 acc hi _ k4 hDa Q4 kQ => ?_) (fun ys H4 hl4 hf4 hD4 _ k4 => ?_)
        · obtain ⟨e, he, De⟩ := hx.get hi
          have hE := okE e (mem_of_get he)
          obtain ⟨b, zs, hyb, hb1⟩ := entry_read De hE
          have bm : b ≠ m := fun q => by
            rcases hb1 with h1 | h1 <;>
            · rw [q, hm] at h1
              cases h1
          have hb4 : ∀ {o : HO}, H b = some o → H4 b = some o := fun h => k4.get id (hkm2.get bm h)
          refine ⟨_, rfl, ?_⟩
          rw [hyb]
          rcases hb1 with h1 | h1
          · refine .inl ⟨b, _, rfl, SqL.of (hb4 h1), fun q hq => kQ _ _ trivial (KP.new hq) ⟨(q, rowD e), rfl, fun z => ?_, fun z => ?_, upd_same, e, he, rfl⟩⟩
            · have z' : q = D := z
              rw [z', hDa] at hq
              cases hq
            · have z' : q = m := z
              have hm4 : H4 m = some _ := k4.get id upd_same
              rw [z', hm4] at hq
              cases hq
          · refine .inr ⟨b, _, rfl, SqT.of (hb4 h1), kQ _ _ trivial (KP.refl _ _) ⟨(b, rowD e), rfl, fun z => ?_, bm, hb4 h1, e, he, rfl⟩⟩
            have z' : b = D := z
            rw [z', hD0] at h1
            cases h1
        · obtain ⟨us, rfl, hu⟩ := collect (g := fun u : Addr × List Int => V.ref u.1) hf4
          refine .inl ⟨D, _, rfl, SqL.of hD4, fun t ht => ?_⟩
          have hm4 : H4 m = some _ := k4.get id upd_same
          have ntm : t ≠ m := fun e => by
            rw [e, hm4] at ht
            cases ht
          refine ⟨_, rfl, m, CM, dx, _, rfl, by rw [upd_ne ntm.symm]; exact hm4, TC.cl, TC.n3, (by show 2 < 1000; decide), ?_⟩
          rw [List.length_map] at hl4
          have hmem : ∀ u ∈ us, u.1 ≠ m ∧ H4 u.1 = some (.tup (u.2.map V.int)) := fun u hu' => by
            obtain ⟨i, hi⟩ := List.getElem?_of_mem hu'
            obtain ⟨_, h2, h3, _⟩ := hu i u hi
            exact ⟨h2, h3⟩
          refine kG' _ us (((hkm2.trans (k4.weak fun _ z => z.elim)).trans (KP.new ht)).trans (kp_upd rfl)) ⟨dx, t, ?_, ?_, fun u hu' => ?_⟩ ?_
          · rw [upd_same, hl4]
            rfl
          · rw [upd_ne ntm, upd_same]
          · obtain ⟨h2, h3⟩ := hmem u hu'
            rw [upd_ne h2]
            exact nk h3 ht
          · refine List.ext_getElem? fun i => ?_
            rw [List.getElem?_map]
            cases hi : us[i]? with
            | none =>
              have q : us.length ≤ i := List.getElem?_eq_none_iff.mp hi
              have q2 : ((itemsD (.list ds')).map rowD)[i]? = none := List.getElem?_eq_none_iff.mpr (by rw [List.length_map]; show ds'.length ≤ i; omega)
              exact q2.symm
            | some u =>
              obtain ⟨_, _, _, e, he, hr'⟩ := hu i u hi
              have q2 : ((itemsD (.list ds')).map rowD)[i]? = some (rowD e) := by
                rw [List.getElem?_map]
                show (ds'[i]?).map rowD = _
                rw [he] <;> rfl
              rw [q2]
              show some u.2 = some (rowD e)
              rw [hr']
    | @tup a xs ds' ha hx => 
      refine ⟨_, (pss_cons (ps_if (PW.pt (pw_or (pt_not (pt_val (pe_call G_is_number (hr.mono (by decide)) rfl d_is_number.g d_is_number.F.kp d_is_number.b .nil pass0 (pa_cons (pv 1) pa_nil)))) (pw_or1 (pt_cmpR op_eq (pv 1) pe_int (nomark _))))) (pss_one (ps_raiseLow rfl TE hr (takes_of rfl rfl rfl rfl) (pa_cons pe_int pa_nil) (by rfl))) pss_nil)
    (pss_cons (ps_if (PW.pt (pw_or (pt_not (pt_val (pe_call G_is_sequence (hr.mono (by decide)) rfl d_is_sequence.g d_is_sequence.F.kp d_is_sequence.b .nil pass0 (pa_cons (pv 2) pa_nil)))) (pw_or1 (pt_cmpR op_eq (pe_callB call_len_seq (by rfl) T.len PySem.boot_len (pa_cons (pv 2) pa_nil)) pe_int (nomark _))))) (pss_one (ps_raiseLow rfl TE hr (takes_of rfl rfl rfl rfl) (pa_cons pe_int pa_nil) (by rfl))) pss_nil)
    (pss_cons (ps_for (passes_of rfl) rfl (pi_enumT (by rfl) T.enumerate (pa_cons (pv 2) pa_nil)) (pg_tup rfl (pgs_cons (pg_name (i := 3) sc_Machine___init.nd rfl (Or.inl rfl)) (pgs_cons (pg_name (i := 4) sc_Machine___init.nd rfl (Or.inl rfl)) pgs_nil)))
      (pss_one (ps_if (pt_not (pt_val (pe_call G_is_entry (hr.mono (by decide)) rfl d_is_entry.g d_is_entry.F.kp d_is_entry.b .nil pass0 (pa_cons (pv 4) (pa_cons (pv 1) (pa_cons (pe_callB call_len_seq (by rfl) T.len PySem.boot_len (pa_cons (pv 2) pa_nil)) pa_nil)))))) (pss_one (ps_raiseLow rfl TE hr (takes_of rfl rfl rfl rfl) (pa_cons (pe_op op_add pe_int (pv 3)) pa_nil) (by rfl))) pss_nil)))
    (pss_cons (ps_fld (pv 0) (pv 1) rfl)
    (pss_cons (ps_fld (pv 0) (pe_callB call_len_seq (by rfl) T.len PySem.boot_len (pa_cons (pv 2) pa_nil)) rfl)
    (pss_one (ps_fld (pv 0) (pe_tupleOf (by rfl) T.tuple (pe_lc (own := [("entry", 4)]) (g := gName 4) (tt := tYes) (te := tThen (tVar 4) (kTup K)) rfl sc_Machine___init.nd (pi_tup (pv 2)) (blkOk_by (N := N_Machine___init) (sc := defScope s_Machine___init) (by decide +kernel)) (fun _ _ _ _ _ => (pg_name (i := 4) sc_Machine___init.nd rfl (Or.inl rfl))) (fun _ _ _ _ _ => pts_nil) (fun _ _ _ _ _ => (pe_tupleOf (by rfl) T.tuple (pv 4))))) rfl))))))), ?_⟩
      have hne : a ≠ m := fun e => by
        rw [e, hm] at ha
        cases ha
      refine ⟨_, rfl, x, dc, rfl, Dx, fun H1 S1 => ⟨isN dc, rfl, ?_⟩⟩
      have hlen : xs.length = ds'.length := hx.len
      -- the first test
      by_cases hb : badC dc = true
      · have kb := kB hb
        have hN : ∀ i, dc = .int i → i ≤ 0 := fun i e => by
          rw [e] at hb
          exact of_decide_eq_true hb
        cases Dx with
        | int i =>
          have i0 := hN i rfl
          show (if (!decide (0 ≤ i)) = true then _ else _)
          by_cases h0 : 0 ≤ i
          · have e0 : i = 0 := by omega
            rw [decide_eq_true h0]
            refine iteF ⟨_, rfl, rfl, _, rfl, ?_⟩
            rw [e0]
            refine iteT ⟨_, rfl, fun q hq => kb H1 q S1 hq⟩
          · rw [decide_eq_false h0]
            exact iteT (iteT ⟨_, rfl, fun q hq => kb H1 q S1 hq⟩)
        | non => exact iteT (iteT ⟨_, rfl, fun q hq => kb H1 q S1 hq⟩)
        | bl b => exact iteT (iteT ⟨_, rfl, fun q hq => kb H1 q S1 hq⟩)
        | str b => exact iteT (iteT ⟨_, rfl, fun q hq => kb H1 q S1 hq⟩)
        | lst _ _ => exact iteT (iteT ⟨_, rfl, fun q hq => kb H1 q S1 hq⟩)
        | tup _ _ => exact iteT (iteT ⟨_, rfl, fun q hq => kb H1 q S1 hq⟩)
        | dct _ => exact iteT (iteT ⟨_, rfl, fun q hq => kb H1 q S1 hq⟩)
      obtain ⟨A, rfl, A0⟩ : ∃ A : Int, dc = .int A ∧ 0 < A := by
        cases dc with
        | int i => exact ⟨i, rfl, by have : ¬ i ≤ 0 := fun q => hb (decide_eq_true q); omega⟩
        | none => exact absurd rfl hb
        | bool _ => exact absurd rfl hb
        | str _ => exact absurd rfl hb
        | list _ => exact absurd rfl hb
        | tuple _ => exact absurd rfl hb
        | dict _ => exact absurd rfl hb
      have kG' := kG (by simpa using hb) A rfl
      obtain rfl : x = V.int A := by cases Dx; rfl
      show (if (!decide (0 ≤ A)) = true then _ else _)
      rw [decide_eq_true (show 0 ≤ A by omega)]
      refine iteF ⟨_, rfl, rfl, _, rfl, ?_⟩
      rw [decide_eq_false (show ¬ V.int A = V.int 0 from fun e => by injection e with e; omega)]
      refine iteF ?_
      -- the second test
      refine ⟨_, rfl, .ref a, _, rfl, Dy.same S1, fun H2 S2 => ⟨true, rfl, iteF ⟨_, rfl, a, xs, rfl, .inr (SqT.of ((S1.trans S2) _ _ ha)), rfl, _, rfl, ?_⟩⟩⟩
      have S12 := S1.trans S2
      cases hds : ds' with
      | nil =>
        have hx0 : xs.length = 0 := by rw [hlen, hds]; rfl
        rw [hx0]
        refine iteT ⟨_, rfl, fun q hq => ?_⟩
        have e : stepsRes A (.tuple ds') = some 1 := by rw [hds] <;> rfl
        rw [e] at kG'
        exact kG' H2 q S12 hq
      | cons d0 dr =>
      have hpos : 0 < ds'.length := by rw [hds]; simp
      rw [decide_eq_false (show ¬ V.int ((xs.length : Nat) : Int) = V.int 0 from fun e => by injection e with e; omega)]
      refine iteF ?_
      have eR : stepsRes A (.tuple ds') = (badAt A (ds'.length : Int) ds' 0).map fun i => 2 + (i : Int) := by
        unfold stepsRes
        rw [if_neg (by rw [hds]; intro z; rcases z with z | z <;> cases z)]
        rfl
      rw [eR] at kG'
      refine ⟨_, rfl, a, xs, rfl, SqT.of (S12 _ _ ha), for_enumT (K := K) (a := a) (xs := xs) (fun i σ H3 => ∃ v3 v4 : Option V, σ = [some (.ref m), some (.int A), some (.ref a), v3, v4] ∧ Same H H3 ∧ badAt A (ds'.length : Int) ds' 0 = badAt A (ds'.length : Int) (ds'.drop i) i) ⟨none, none, rfl, S12, rfl⟩ (fun i σ H3 ⟨_, _, _, S, _⟩ => SqT.of (S _ _ ha)) ?_ ?_⟩
      · rintro i y σ H3 t hi ⟨v3, v4, rfl, S3, eb⟩ ht
        obtain ⟨e, he, De⟩ := hx.get hi
        have S4 : Same H (upd H3 t (HO.tup [V.int ((i : Nat) : Int), y])) := S3.trans (Same.new ht)
        refine ⟨t, _, rfl, SqT.of upd_same, rfl, _, _, rfl, _, _, rfl, rfl, ?_⟩
        refine ⟨_, rfl, _, rfl, _, rfl, a, xs, rfl, .inr (SqT.of (S4 _ _ ha)), y, e, A, _, rfl, De.same S4, Nat.le_trans (hz2 e (mem_of_get he)) (by decide), fun H5 S5 => ⟨isE A ((xs.length : Nat) : Int) e, rfl, ?_⟩⟩
        rw [drop_get he] at eb
        rw [hlen]
        rw [badAt_cons] at eb
        by_cases hE : isE A (ds'.length : Int) e = true
        · rw [if_pos hE] at eb
          rw [hE]
          exact iteF ⟨_, _, rfl, S4.trans S5, eb⟩
        · rw [if_neg hE] at eb
          rw [show isE A (ds'.length : Int) e = false by simpa using hE]
          refine iteT ⟨_, rfl, _, _, rfl, rfl, _, rfl, fun q hq => ?_⟩
          rw [eb] at kG'
          exact kG' H5 q (S4.trans S5) hq
      · rintro σ H3 ⟨v3, v4, rfl, S3, eb⟩
        rw [hlen, List.drop_length] at eb
        rw [show badAt A (ds'.length : Int) ds' 0 = none from eb] at kG'
        have okE : ∀ e ∈ ds', isE A (ds'.length : Int) e = true := badAt_none eb
        have hm3 : H3 m = some (.ins CM dx []) := S3 _ _ hm
        -- the fields
        refine ⟨_, rfl, _, rfl, m, CM, dx, [], rfl, hm3, TC.cl, TC.n1, (by show 0 < 1000; decide), ?_⟩
        have hkm : ∀ {o : HO}, KP (fun b => b = m) H (upd H3 m o) := (KP.same (S := fun b => b = m) S3).trans (kp_upd rfl)
        refine ⟨_, rfl, a, xs, rfl, .inr (SqT.of (hkm.get hne ha)), _, rfl, m, CM, dx, _, rfl, upd_same, TC.cl, TC.n2, (by show 1 < 1000; decide), ?_⟩
        have hkm2 : ∀ {o1 o2 : HO}, KP (fun b => b = m) H (upd (upd H3 m o1) m o2) := ((KP.same (S := fun b => b = m) S3).trans (kp_upd rfl)).trans (kp_upd rfl)
        refine ⟨_, rfl, a, rfl, ⟨_, SqT.of (hkm2.get hne ha)⟩, fun D hD => ?_⟩
        have nDm : D ≠ m := fun e => by
          rw [e, upd_same] at hD
          cases hD
        have hD0 : H D = none := hkm2.free nDm hD
        refine lcTT (K := K) (xs := xs) (fun _ => False) (fun H' => True) (fun i y H' => ∃ u : Addr × List Int, y = V.ref u.1 ∧ u.1 ≠ D ∧ u.1 ≠ m ∧ H' u.1 = some (.tup (u.2.map V.int)) ∧ ∃ e, ds'[i]? = some e ∧ u.2 = rowD e) hD id (by rw [hlen]; exact Nat.le_trans hz1 (by decide)) trivial (fun _ _ _ => trivial)
          (fun i y H' H'' kk ⟨u, e1, e2, e3, e4, e5⟩ => ⟨u, e1, e2, e3, kk.get (fun z => z.elim id e2) e4, e5⟩) (fun H' kk => SqT.of (kk.get id (hkm2.get hne ha))) (fun i y H4 acc hi _ k4 hDa Q4 kQ => ?_) (fun ys H4 hl4 hf4 hD4 _ k4 => ?_)
        · obtain ⟨e, he, De⟩ := hx.get hi
          have hE := okE e (mem_of_get he)
          obtain ⟨b, zs, hyb, hb1⟩ := entry_read De hE
          have bm : b ≠ m := fun q => by
            rcases hb1 with h1 | h1 <;>
            · rw [q, hm] at h1
              cases h1
          have hb4 : ∀ {o : HO}, H b = some o → H4 b = some o := fun h => k4.get id (hkm2.get bm h)
          refine ⟨_, rfl, ?_⟩
          rw [hyb]
          rcases hb1 with h1 | h1
          · refine .inl ⟨b, _, rfl, SqL.of (hb4 h1), fun q hq => kQ _ _ trivial (KP.new hq) ⟨(q, rowD e), rfl, fun z => ?_, fun z => ?_, upd_same, e, he, rfl⟩⟩
            · have z' : q = D := z
              rw [z', hDa] at hq
              cases hq
            · have z' : q = m := z
              have hm4 : H4 m = some _ := k4.get id upd_same
              rw [z', hm4] at hq
              cases hq
          · refine .inr ⟨b, _, rfl, SqT.of (hb4 h1), kQ _ _ trivial (KP.refl _ _) ⟨(b, rowD e), rfl, fun z => ?_, bm, hb4 h1, e, he, rfl⟩⟩
            have z' : b = D := z
            rw [z', hD0] at h1
            cases h1
        · obtain ⟨us, rfl, hu⟩ := collect (g := fun u : Addr × List Int => V.ref u.1) hf4
          refine .inl ⟨D, _, rfl, SqL.of hD4, fun t ht => ?_⟩
          have hm4 : H4 m = some _ := k4.get id upd_same
          have ntm : t ≠ m := fun e => by
            rw [e, hm4] at ht
            cases ht
          refine ⟨_, rfl, m, CM, dx, _, rfl, by rw [upd_ne ntm.symm]; exact hm4, TC.cl, TC.n3, (by show 2 < 1000; decide), ?_⟩
          rw [List.length_map] at hl4
          have hmem : ∀ u ∈ us, u.1 ≠ m ∧ H4 u.1 = some (.tup (u.2.map V.int)) := fun u hu' => by
            obtain ⟨i, hi⟩ := List.getElem?_of_mem hu'
            obtain ⟨_, h2, h3, _⟩ := hu i u hi
            exact ⟨h2, h3⟩
          refine kG' _ us (((hkm2.trans (k4.weak fun _ z => z.elim)).trans (KP.new ht)).trans (kp_upd rfl)) ⟨dx, t, ?_, ?_, fun u hu' => ?_⟩ ?_
          · rw [upd_same, hl4]
            rfl
          · rw [upd_ne ntm, upd_same]
          · obtain ⟨h2, h3⟩ := hmem u hu'
            rw [upd_ne h2]
            exact nk h3 ht
          · refine List.ext_getElem? fun i => ?_
            rw [List.getElem?_map]
            cases hi : us[i]? with
            | none =>
              have q : us.length ≤ i := List.getElem?_eq_none_iff.mp hi
              have q2 : ((itemsD (.tuple ds')).map rowD)[i]? = none := List.getElem?_eq_none_iff.mpr (by rw [List.length_map]; show ds'.length ≤ i; omega)
              exact q2.symm
            | some u =>
              obtain ⟨_, _, _, e, he, hr'⟩ := hu i u hi
              have q2 : ((itemsD (.tuple ds')).map rowD)[i]? = some (rowD e) := by
                rw [List.getElem?_map]
                show (ds'[i]?).map rowD = _
                rw [he] <;> rfl
              rw [q2]
              show some u.2 = some (rowD e)
              rw [hr']
    | non => 
      refine ⟨_, (pss_cons (ps_if (PW.pt (pw_or (pt_not (pt_val (pe_call G_is_number (hr.mono (by decide)) rfl d_is_number.g d_is_number.F.kp d_is_number.b .nil pass0 (pa_cons (pv 1) pa_nil)))) (pw_or1 (pt_cmpR op_eq (pv 1) pe_int (nomark _))))) (pss_one (ps_raiseLow rfl TE hr (takes_of rfl rfl rfl rfl) (pa_cons pe_int pa_nil) (by rfl))) pss_nil)
    (pss_cons (ps_if (PW.pt (pw_or (pt_not (pt_val (pe_call G_is_sequence (hr.mono (by decide)) rfl d_is_sequence.g d_is_sequence.F.kp d_is_sequence.b .nil pass0 (pa_cons (pv 2) pa_nil)))) (pw_or1 (pt_cmpR op_eq (pe_callB call_len_seq (by rfl) T.len PySem.boot_len (pa_cons (pv 2) pa_nil)) pe_int (nomark _))))) (pss_one (ps_raiseLow rfl TE hr (takes_of rfl rfl rfl rfl) (pa_cons pe_int pa_nil) (by rfl))) pss_nil)
    (pss_cons (ps_for (passes_of rfl) rfl (pi_enum (by rfl) T.enumerate (pa_cons (pv 2) pa_nil)) (pg_tup rfl (pgs_cons (pg_name (i := 3) sc_Machine___init.nd rfl (Or.inl rfl)) (pgs_cons (pg_name (i := 4) sc_Machine___init.nd rfl (Or.inl rfl)) pgs_nil)))
      (pss_one (ps_if (pt_not (pt_val (pe_call G_is_entry (hr.mono (by decide)) rfl d_is_entry.g d_is_entry.F.kp d_is_entry.b .nil pass0 (pa_cons (pv 4) (pa_cons (pv 1) (pa_cons (pe_callB call_len_seq (by rfl) T.len PySem.boot_len (pa_cons (pv 2) pa_nil)) pa_nil)))))) (pss_one (ps_raiseLow rfl TE hr (takes_of rfl rfl rfl rfl) (pa_cons (pe_op op_add pe_int (pv 3)) pa_nil) (by rfl))) pss_nil)))
    (pss_cons (ps_fld (pv 0) (pv 1) rfl)
    (pss_cons (ps_fld (pv 0) (pe_callB call_len_seq (by rfl) T.len PySem.boot_len (pa_cons (pv 2) pa_nil)) rfl)
    (pss_one (ps_fld (pv 0) (pe_tupleOf (by rfl) T.tuple (pe_lc (own := [("entry", 4)]) (g := gName 4) (tt := tYes) (te := tThen (tVar 4) (kTup K)) rfl sc_Machine___init.nd (pi_list (pv 2)) (blkOk_by (N := N_Machine___init) (sc := defScope s_Machine___init) (by decide +kernel)) (fun _ _ _ _ _ => (pg_name (i := 4) sc_Machine___init.nd rfl (Or.inl rfl))) (fun _ _ _ _ _ => pts_nil) (fun _ _ _ _ _ => (pe_tupleOf (by rfl) T.tuple (pv 4))))) rfl))))))), ?_⟩
      refine ⟨_, rfl, x, dc, rfl, Dx, fun H1 S1 => ⟨isN dc, rfl, ?_⟩⟩
      -- the first test
      by_cases hb : badC dc = true
      · have kb := kB hb
        have hN : ∀ i, dc = .int i → i ≤ 0 := fun i e => by
          rw [e] at hb
          exact of_decide_eq_true hb
        cases Dx with
        | int i =>
          have i0 := hN i rfl
          show (if (!decide (0 ≤ i)) = true then _ else _)
          by_cases h0 : 0 ≤ i
          · have e0 : i = 0 := by omega
            rw [decide_eq_true h0]
            refine iteF ⟨_, rfl, rfl, _, rfl, ?_⟩
            rw [e0]
            refine iteT ⟨_, rfl, fun q hq => kb H1 q S1 hq⟩
          · rw [decide_eq_false h0]
            exact iteT (iteT ⟨_, rfl, fun q hq => kb H1 q S1 hq⟩)
        | non => exact iteT (iteT ⟨_, rfl, fun q hq => kb H1 q S1 hq⟩)
        | bl b => exact iteT (iteT ⟨_, rfl, fun q hq => kb H1 q S1 hq⟩)
        | str b => exact iteT (iteT ⟨_, rfl, fun q hq => kb H1 q S1 hq⟩)
        | lst _ _ => exact iteT (iteT ⟨_, rfl, fun q hq => kb H1 q S1 hq⟩)
        | tup _ _ => exact iteT (iteT ⟨_, rfl, fun q hq => kb H1 q S1 hq⟩)
        | dct _ => exact iteT (iteT ⟨_, rfl, fun q hq => kb H1 q S1 hq⟩)
      obtain ⟨A, rfl, A0⟩ : ∃ A : Int, dc = .int A ∧ 0 < A := by
        cases dc with
        | int i => exact ⟨i, rfl, by have : ¬ i ≤ 0 := fun q => hb (decide_eq_true q); omega⟩
        | none => exact absurd rfl hb
        | bool _ => exact absurd rfl hb
        | str _ => exact absurd rfl hb
        | list _ => exact absurd rfl hb
        | tuple _ => exact absurd rfl hb
        | dict _ => exact absurd rfl hb
      have kG' := kG (by simpa using hb) A rfl
      obtain rfl : x = V.int A := by cases Dx; rfl
      show (if (!decide (0 ≤ A)) = true then _ else _)
      rw [decide_eq_true (show 0 ≤ A by omega)]
      refine iteF ⟨_, rfl, rfl, _, rfl, ?_⟩
      rw [decide_eq_false (show ¬ V.int A = V.int 0 from fun e => by injection e with e; omega)]
      refine iteF ?_
      refine ⟨_, rfl, _, _, rfl, Dy.same S1, fun H2 S2 => ⟨false, rfl, iteT (iteT ⟨_, rfl, fun q hq => ?_⟩)⟩⟩
      have e : stepsRes A .none = some 1 := rfl
      rw [e] at kG'
      exact kG' H2 q (S1.trans S2) hq
    | bl b => 
      refine ⟨_, (pss_cons (ps_if (PW.pt (pw_or (pt_not (pt_val (pe_call G_is_number (hr.mono (by decide)) rfl d_is_number.g d_is_number.F.kp d_is_number.b .nil pass0 (pa_cons (pv 1) pa_nil)))) (pw_or1 (pt_cmpR op_eq (pv 1) pe_int (nomark _))))) (pss_one (ps_raiseLow rfl TE hr (takes_of rfl rfl rfl rfl) (pa_cons pe_int pa_nil) (by rfl))) pss_nil)
    (pss_cons (ps_if (PW.pt (pw_or (pt_not (pt_val (pe_call G_is_sequence (hr.mono (by decide)) rfl d_is_sequence.g d_is_sequence.F.kp d_is_sequence.b .nil pass0 (pa_cons (pv 2) pa_nil)))) (pw_or1 (pt_cmpR op_eq (pe_callB call_len_seq (by rfl) T.len PySem.boot_len (pa_cons (pv 2) pa_nil)) pe_int (nomark _))))) (pss_one (ps_raiseLow rfl TE hr (takes_of rfl rfl rfl rfl) (pa_cons pe_int pa_nil) (by rfl))) pss_nil)
    (pss_cons (ps_for (passes_of rfl) rfl (pi_enum (by rfl) T.enumerate (pa_cons (pv 2) pa_nil)) (pg_tup rfl (pgs_cons (pg_name (i := 3) sc_Machine___init.nd rfl (Or.inl rfl)) (pgs_cons (pg_name (i := 4) sc_Machine___init.nd rfl (Or.inl rfl)) pgs_nil)))
      (pss_one (ps_if (pt_not (pt_val (pe_call G_is_entry (hr.mono (by decide)) rfl d_is_entry.g d_is_entry.F.kp d_is_entry.b .nil pass0 (pa_cons (pv 4) (pa_cons (pv 1) (pa_cons (pe_callB call_len_seq (by rfl) T.len PySem.boot_len (pa_cons (pv 2) pa_nil)) pa_nil)))))) (pss_one (ps_raiseLow rfl TE hr (takes_of rfl rfl rfl rfl) (pa_cons (pe_op op_add pe_int (pv 3)) pa_nil) (by rfl))) pss_nil)))
    (pss_cons (ps_fld (pv 0) (pv 1) rfl)
    (pss_cons (ps_fld (pv 0) (pe_callB call_len_seq (by rfl) T.len PySem.boot_len (pa_cons (pv 2) pa_nil)) rfl)
    (pss_one (ps_fld (pv 0) (pe_tupleOf (by rfl) T.tuple (pe_lc (own := [("entry", 4)]) (g := gName 4) (tt := tYes) (te := tThen (tVar 4) (kTup K)) rfl sc_Machine___init.nd (pi_list (pv 2)) (blkOk_by (N := N_Machine___init) (sc := defScope s_Machine___init) (by decide +kernel)) (fun _ _ _ _ _ => (pg_name (i := 4) sc_Machine___init.nd rfl (Or.inl rfl))) (fun _ _ _ _ _ => pts_nil) (fun _ _ _ _ _ => (pe_tupleOf (by rfl) T.tuple (pv 4))))) rfl))))))), ?_⟩
      refine ⟨_, rfl, x, dc, rfl, Dx, fun H1 S1 => ⟨isN dc, rfl, ?_⟩⟩
      -- the first test
      by_cases hb : badC dc = true
      · have kb := kB hb
        have hN : ∀ i, dc = .int i → i ≤ 0 := fun i e => by
          rw [e] at hb
          exact of_decide_eq_true hb
        cases Dx with
        | int i =>
          have i0 := hN i rfl
          show (if (!decide (0 ≤ i)) = true then _ else _)
          by_cases h0 : 0 ≤ i
          · have e0 : i = 0 := by omega
            rw [decide_eq_true h0]
            refine iteF ⟨_, rfl, rfl, _, rfl, ?_⟩
            rw [e0]
            refine iteT ⟨_, rfl, fun q hq => kb H1 q S1 hq⟩
          · rw [decide_eq_false h0]
            exact iteT (iteT ⟨_, rfl, fun q hq => kb H1 q S1 hq⟩)
        | non => exact iteT (iteT ⟨_, rfl, fun q hq => kb H1 q S1 hq⟩)
        | bl b => exact iteT (iteT ⟨_, rfl, fun q hq => kb H1 q S1 hq⟩)
        | str b => exact iteT (iteT ⟨_, rfl, fun q hq => kb H1 q S1 hq⟩)
        | lst _ _ => exact iteT (iteT ⟨_, rfl, fun q hq => kb H1 q S1 hq⟩)
        | tup _ _ => exact iteT (iteT ⟨_, rfl, fun q hq => kb H1 q S1 hq⟩)
        | dct _ => exact iteT (iteT ⟨_, rfl, fun q hq => kb H1 q S1 hq⟩)
      obtain ⟨A, rfl, A0⟩ : ∃ A : Int, dc = .int A ∧ 0 < A := by
        cases dc with
        | int i => exact ⟨i, rfl, by have : ¬ i ≤ 0 := fun q => hb (decide_eq_true q); omega⟩
        | none => exact absurd rfl hb
        | bool _ => exact absurd rfl hb
        | str _ => exact absurd rfl hb
        | list _ => exact absurd rfl hb
        | tuple _ => exact absurd rfl hb
        | dict _ => exact absurd rfl hb
      have kG' := kG (by simpa using hb) A rfl
      obtain rfl : x = V.int A := by cases Dx; rfl
      show (if (!decide (0 ≤ A)) = true then _ else _)
      rw [decide_eq_true (show 0 ≤ A by omega)]
      refine iteF ⟨_, rfl, rfl, _, rfl, ?_⟩
      rw [decide_eq_false (show ¬ V.int A = V.int 0 from fun e => by injection e with e; omega)]
      refine iteF ?_
      refine ⟨_, rfl, _, _, rfl, Dy.same S1, fun H2 S2 => ⟨false, rfl, iteT (iteT ⟨_, rfl, fun q hq => ?_⟩)⟩⟩
      have e : stepsRes A (.bool b) = some 1 := rfl
      rw [e] at kG'
      exact kG' H2 q (S1.trans S2) hq
    | int i0 => 
      refine ⟨_, (pss_cons (ps_if (PW.pt (pw_or (pt_not (pt_val (pe_call G_is_number (hr.mono (by decide)) rfl d_is_number.g d_is_number.F.kp d_is_number.b .nil pass0 (pa_cons (pv 1) pa_nil)))) (pw_or1 (pt_cmpR op_eq (pv 1) pe_int (nomark _))))) (pss_one (ps_raiseLow rfl TE hr (takes_of rfl rfl rfl rfl) (pa_cons pe_int pa_nil) (by rfl))) pss_nil)
    (pss_cons (ps_if (PW.pt (pw_or (pt_not (pt_val (pe_call G_is_sequence (hr.mono (by decide)) rfl d_is_sequence.g d_is_sequence.F.kp d_is_sequence.b .nil pass0 (pa_cons (pv 2) pa_nil)))) (pw_or1 (pt_cmpR op_eq (pe_callB call_len_seq (by rfl) T.len PySem.boot_len (pa_cons (pv 2) pa_nil)) pe_int (nomark _))))) (pss_one (ps_raiseLow rfl TE hr (takes_of rfl rfl rfl rfl) (pa_cons pe_int pa_nil) (by rfl))) pss_nil)
    (pss_cons (ps_for (passes_of rfl) rfl (pi_enum (by rfl) T.enumerate (pa_cons (pv 2) pa_nil)) (pg_tup rfl (pgs_cons (pg_name (i := 3) sc_Machine___init.nd rfl (Or.inl rfl)) (pgs_cons (pg_name (i := 4) sc_Machine___init.nd rfl (Or.inl rfl)) pgs_nil)))
      (pss_one (ps_if (pt_not (pt_val (pe_call G_is_entry (hr.mono (by decide)) rfl d_is_entry.g d_is_entry.F.kp d_is_entry.b .nil pass0 (pa_cons (pv 4) (pa_cons (pv 1) (pa_cons (pe_callB call_len_seq (by rfl) T.len PySem.boot_len (pa_cons (pv 2) pa_nil)) pa_nil)))))) (pss_one (ps_raiseLow rfl TE hr (takes_of rfl rfl rfl rfl) (pa_cons (pe_op op_add pe_int (pv 3)) pa_nil) (by rfl))) pss_nil)))
    (pss_cons (ps_fld (pv 0) (pv 1) rfl)
    (pss_cons (ps_fld (pv 0) (pe_callB call_len_seq (by rfl) T.len PySem.boot_len (pa_cons (pv 2) pa_nil)) rfl)
    (pss_one (ps_fld (pv 0) (pe_tupleOf (by rfl) T.tuple (pe_lc (own := [("entry", 4)]) (g := gName 4) (tt := tYes) (te := tThen (tVar 4) (kTup K)) rfl sc_Machine___init.nd (pi_list (pv 2)) (blkOk_by (N := N_Machine___init) (sc := defScope s_Machine___init) (by decide +kernel)) (fun _ _ _ _ _ => (pg_name (i := 4) sc_Machine___init.nd rfl (Or.inl rfl))) (fun _ _ _ _ _ => pts_nil) (fun _ _ _ _ _ => (pe_tupleOf (by rfl) T.tuple (pv 4))))) rfl))))))), ?_⟩
      refine ⟨_, rfl, x, dc, rfl, Dx, fun H1 S1 => ⟨isN dc, rfl, ?_⟩⟩
      -- the first test
      by_cases hb : badC dc = true
      · have kb := kB hb
        have hN : ∀ i, dc = .int i → i ≤ 0 := fun i e => by
          rw [e] at hb
          exact of_decide_eq_true hb
        cases Dx with
        | int i =>
          have i0 := hN i rfl
          show (if (!decide (0 ≤ i)) = true then _ else _)
          by_cases h0 : 0 ≤ i
          · have e0 : i = 0 := by omega
            rw [decide_eq_true h0]
            refine iteF ⟨_, rfl, rfl, _, rfl, ?_⟩
            rw [e0]
            refine iteT ⟨_, rfl, fun q hq => kb H1 q S1 hq⟩
          · rw [decide_eq_false h0]
            exact iteT (iteT ⟨_, rfl, fun q hq => kb H1 q S1 hq⟩)
        | non => exact iteT (iteT ⟨_, rfl, fun q hq => kb H1 q S1 hq⟩)
        | bl b => exact iteT (iteT ⟨_, rfl, fun q hq => kb H1 q S1 hq⟩)
        | str b => exact iteT (iteT ⟨_, rfl, fun q hq => kb H1 q S1 hq⟩)
        | lst _ _ => exact iteT (iteT ⟨_, rfl, fun q hq => kb H1 q S1 hq⟩)
        | tup _ _ => exact iteT (iteT ⟨_, rfl, fun q hq => kb H1 q S1 hq⟩)
        | dct _ => exact iteT (iteT ⟨_, rfl, fun q hq => kb H1 q S1 hq⟩)
      obtain ⟨A, rfl, A0⟩ : ∃ A : Int, dc = .int A ∧ 0 < A := by
        cases dc with
        | int i => exact ⟨i, rfl, by have : ¬ i ≤ 0 := fun q => hb (decide_eq_true q); omega⟩
        | none => exact absurd rfl hb
        | bool _ => exact absurd rfl hb
        | str _ => exact absurd rfl hb
        | list _ => exact absurd rfl hb
        | tuple _ => exact absurd rfl hb
        | dict _ => exact absurd rfl hb
      have kG' := kG (by simpa using hb) A rfl
      obtain rfl : x = V.int A := by cases Dx; rfl
      show (if (!decide (0 ≤ A)) = true then _ else _)
      rw [decide_eq_true (show 0 ≤ A by omega)]
      refine iteF ⟨_, rfl, rfl, _, rfl, ?_⟩
      rw [decide_eq_false (show ¬ V.int A = V.int 0 from fun e => by injection e with e; omega)]
      refine iteF ?_
      refine ⟨_, rfl, _, _, rfl, Dy.same S1, fun H2 S2 => ⟨false, rfl, iteT (iteT ⟨_, rfl, fun q hq => ?_⟩)⟩⟩
      have e : stepsRes A (.int i0) = some 1 := rfl
      rw [e] at kG'
      exact kG' H2 q (S1.trans S2) hq
    | str z => 
      refine ⟨_, (pss_cons (ps_if (PW.pt (pw_or (pt_not (pt_val (pe_call G_is_number (hr.mono (by decide)) rfl d_is_number.g d_is_number.F.kp d_is_number.b .nil pass0 (pa_cons (pv 1) pa_nil)))) (pw_or1 (pt_cmpR op_eq (pv 1) pe_int (nomark _))))) (pss_one (ps_raiseLow rfl TE hr (takes_of rfl rfl rfl rfl) (pa_cons pe_int pa_nil) (by rfl))) pss_nil)
    (pss_cons (ps_if (PW.pt (pw_or (pt_not (pt_val (pe_call G_is_sequence (hr.mono (by decide)) rfl d_is_sequence.g d_is_sequence.F.kp d_is_sequence.b .nil pass0 (pa_cons (pv 2) pa_nil)))) (pw_or1 (pt_cmpR op_eq (pe_callB call_len_seq (by rfl) T.len PySem.boot_len (pa_cons (pv 2) pa_nil)) pe_int (nomark _))))) (pss_one (ps_raiseLow rfl TE hr (takes_of rfl rfl rfl rfl) (pa_cons pe_int pa_nil) (by rfl))) pss_nil)
    (pss_cons (ps_for (passes_of rfl) rfl (pi_enum (by rfl) T.enumerate (pa_cons (pv 2) pa_nil)) (pg_tup rfl (pgs_cons (pg_name (i := 3) sc_Machine___init.nd rfl (Or.inl rfl)) (pgs_cons (pg_name (i := 4) sc_Machine___init.nd rfl (Or.inl rfl)) pgs_nil)))
      (pss_one (ps_if (pt_not (pt_val (pe_call G_is_entry (hr.mono (by decide)) rfl d_is_entry.g d_is_entry.F.kp d_is_entry.b .nil pass0 (pa_cons (pv 4) (pa_cons (pv 1) (pa_cons (pe_callB call_len_seq (by rfl) T.len PySem.boot_len (pa_cons (pv 2) pa_nil)) pa_nil)))))) (pss_one (ps_raiseLow rfl TE hr (takes_of rfl rfl rfl rfl) (pa_cons (pe_op op_add pe_int (pv 3)) pa_nil) (by rfl))) pss_nil)))
    (pss_cons (ps_fld (pv 0) (pv 1) rfl)
    (pss_cons (ps_fld (pv 0) (pe_callB call_len_seq (by rfl) T.len PySem.boot_len (pa_cons (pv 2) pa_nil)) rfl)
    (pss_one (ps_fld (pv 0) (pe_tupleOf (by rfl) T.tuple (pe_lc (own := [("entry", 4)]) (g := gName 4) (tt := tYes) (te := tThen (tVar 4) (kTup K)) rfl sc_Machine___init.nd (pi_list (pv 2)) (blkOk_by (N := N_Machine___init) (sc := defScope s_Machine___init) (by decide +kernel)) (fun _ _ _ _ _ => (pg_name (i := 4) sc_Machine___init.nd rfl (Or.inl rfl))) (fun _ _ _ _ _ => pts_nil) (fun _ _ _ _ _ => (pe_tupleOf (by rfl) T.tuple (pv 4))))) rfl))))))), ?_⟩
      refine ⟨_, rfl, x, dc, rfl, Dx, fun H1 S1 => ⟨isN dc, rfl, ?_⟩⟩
      -- the first test
      by_cases hb : badC dc = true
      · have kb := kB hb
        have hN : ∀ i, dc = .int i → i ≤ 0 := fun i e => by
          rw [e] at hb
          exact of_decide_eq_true hb
        cases Dx with
        | int i =>
          have i0 := hN i rfl
          show (if (!decide (0 ≤ i)) = true then _ else _)
          by_cases h0 : 0 ≤ i
          · have e0 : i = 0 := by omega
            rw [decide_eq_true h0]
            refine iteF ⟨_, rfl, rfl, _, rfl, ?_⟩
            rw [e0]
            refine iteT ⟨_, rfl, fun q hq => kb H1 q S1 hq⟩
          · rw [decide_eq_false h0]
            exact iteT (iteT ⟨_, rfl, fun q hq => kb H1 q S1 hq⟩)
        | non => exact iteT (iteT ⟨_, rfl, fun q hq => kb H1 q S1 hq⟩)
        | bl b => exact iteT (iteT ⟨_, rfl, fun q hq => kb H1 q S1 hq⟩)
        | str b => exact iteT (iteT ⟨_, rfl, fun q hq => kb H1 q S1 hq⟩)
        | lst _ _ => exact iteT (iteT ⟨_, rfl, fun q hq => kb H1 q S1 hq⟩)
        | tup _ _ => exact iteT (iteT ⟨_, rfl, fun q hq => kb H1 q S1 hq⟩)
        | dct _ => exact iteT (iteT ⟨_, rfl, fun q hq => kb H1 q S1 hq⟩)
      obtain ⟨A, rfl, A0⟩ : ∃ A : Int, dc = .int A ∧ 0 < A := by
        cases dc with
        | int i => exact ⟨i, rfl, by have : ¬ i ≤ 0 := fun q => hb (decide_eq_true q); omega⟩
        | none => exact absurd rfl hb
        | bool _ => exact absurd rfl hb
        | str _ => exact absurd rfl hb
        | list _ => exact absurd rfl hb
        | tuple _ => exact absurd rfl hb
        | dict _ => exact absurd rfl hb
      have kG' := kG (by simpa using hb) A rfl
      obtain rfl : x = V.int A := by cases Dx; rfl
      show (if (!decide (0 ≤ A)) = true then _ else _)
      rw [decide_eq_true (show 0 ≤ A by omega)]
      refine iteF ⟨_, rfl, rfl, _, rfl, ?_⟩
      rw [decide_eq_false (show ¬ V.int A = V.int 0 from fun e => by injection e with e; omega)]
      refine iteF ?_
      refine ⟨_, rfl, _, _, rfl, Dy.same S1, fun H2 S2 => ⟨false, rfl, iteT (iteT ⟨_, rfl, fun q hq => ?_⟩)⟩⟩
      have e : stepsRes A (.str z) = some 1 := rfl
      rw [e] at kG'
      exact kG' H2 q (S1.trans S2) hq
    | dct _ => 
      refine ⟨_, (pss_cons (ps_if (PW.pt (pw_or (pt_not (pt_val (pe_call G_is_number (hr.mono (by decide)) rfl d_is_number.g d_is_number.F.kp d_is_number.b .nil pass0 (pa_cons (pv 1) pa_nil)))) (pw_or1 (pt_cmpR op_eq (pv 1) pe_int (nomark _))))) (pss_one (ps_raiseLow rfl TE hr (takes_of rfl rfl rfl rfl) (pa_cons pe_int pa_nil) (by rfl))) pss_nil)
    (pss_cons (ps_if (PW.pt (pw_or (pt_not (pt_val (pe_call G_is_sequence (hr.mono (by decide)) rfl d_is_sequence.g d_is_sequence.F.kp d_is_sequence.b .nil pass0 (pa_cons (pv 2) pa_nil)))) (pw_or1 (pt_cmpR op_eq (pe_callB call_len_seq (by rfl) T.len PySem.boot_len (pa_cons (pv 2) pa_nil)) pe_int (nomark _))))) (pss_one (ps_raiseLow rfl TE hr (takes_of rfl rfl rfl rfl) (pa_cons pe_int pa_nil) (by rfl))) pss_nil)
    (pss_cons (ps_for (passes_of rfl) rfl (pi_enum (by rfl) T.enumerate (pa_cons (pv 2) pa_nil)) (pg_tup rfl (pgs_cons (pg_name (i := 3) sc_Machine___init.nd rfl (Or.inl rfl)) (pgs_cons (pg_name (i := 4) sc_Machine___init.nd rfl (Or.inl rfl)) pgs_nil)))
      (pss_one (ps_if (pt_not (pt_val (pe_call G_is_entry (hr.mono (by decide)) rfl d_is_entry.g d_is_entry.F.kp d_is_entry.b .nil pass0 (pa_cons (pv 4) (pa_cons (pv 1) (pa_cons (pe_callB call_len_seq (by rfl) T.len PySem.boot_len (pa_cons (pv 2) pa_nil)) pa_nil)))))) (pss_one (ps_raiseLow rfl TE hr (takes_of rfl rfl rfl rfl) (pa_cons (pe_op op_add pe_int (pv 3)) pa_nil) (by rfl))) pss_nil)))
    (pss_cons (ps_fld (pv 0) (pv 1) rfl)
    (pss_cons (ps_fld (pv 0) (pe_callB call_len_seq (by rfl) T.len PySem.boot_len (pa_cons (pv 2) pa_nil)) rfl)
    (pss_one (ps_fld (pv 0) (pe_tupleOf (by rfl) T.tuple (pe_lc (own := [("entry", 4)]) (g := gName 4) (tt := tYes) (te := tThen (tVar 4) (kTup K)) rfl sc_Machine___init.nd (pi_list (pv 2)) (blkOk_by (N := N_Machine___init) (sc := defScope s_Machine___init) (by decide +kernel)) (fun _ _ _ _ _ => (pg_name (i := 4) sc_Machine___init.nd rfl (Or.inl rfl))) (fun _ _ _ _ _ => pts_nil) (fun _ _ _ _ _ => (pe_tupleOf (by rfl) T.tuple (pv 4))))) rfl))))))), ?_⟩
      refine ⟨_, rfl, x, dc, rfl, Dx, fun H1 S1 => ⟨isN dc, rfl, ?_⟩⟩
      -- the first test
      by_cases hb : badC dc = true
      · have kb := kB hb
        have hN : ∀ i, dc = .int i → i ≤ 0 := fun i e => by
          rw [e] at hb
          exact of_decide_eq_true hb
        cases Dx with
        | int i =>
          have i0 := hN i rfl
          show (if (!decide (0 ≤ i)) = true then _ else _)
          by_cases h0 : 0 ≤ i
          · have e0 : i = 0 := by omega
            rw [decide_eq_true h0]
            refine iteF ⟨_, rfl, rfl, _, rfl, ?_⟩
            rw [e0]
            refine iteT ⟨_, rfl, fun q hq => kb H1 q S1 hq⟩
          · rw [decide_eq_false h0]
            exact iteT (iteT ⟨_, rfl, fun q hq => kb H1 q S1 hq⟩)
        | non => exact iteT (iteT ⟨_, rfl, fun q hq => kb H1 q S1 hq⟩)
        | bl b => exact iteT (iteT ⟨_, rfl, fun q hq => kb H1 q S1 hq⟩)
        | str b => exact iteT (iteT ⟨_, rfl, fun q hq => kb H1 q S1 hq⟩)
        | lst _ _ => exact iteT (iteT ⟨_, rfl, fun q hq => kb H1 q S1 hq⟩)
        | tup _ _ => exact iteT (iteT ⟨_, rfl, fun q hq => kb H1 q S1 hq⟩)
        | dct _ => exact iteT (iteT ⟨_, rfl, fun q hq => kb H1 q S1 hq⟩)
      obtain ⟨A, rfl, A0⟩ : ∃ A : Int, dc = .int A ∧ 0 < A := by
        cases dc with
        | int i => exact ⟨i, rfl, by have : ¬ i ≤ 0 := fun q => hb (decide_eq_true q); omega⟩
        | none => exact absurd rfl hb
        | bool _ => exact absurd rfl hb
        | str _ => exact absurd rfl hb
        | list _ => exact absurd rfl hb
        | tuple _ => exact absurd rfl hb
        | dict _ => exact absurd rfl hb
      have kG' := kG (by simpa using hb) A rfl
      obtain rfl : x = V.int A := by cases Dx; rfl
      show (if (!decide (0 ≤ A)) = true then _ else _)
      rw [decide_eq_true (show 0 ≤ A by omega)]
      refine iteF ⟨_, rfl, rfl, _, rfl, ?_⟩
      rw [decide_eq_false (show ¬ V.int A = V.int 0 from fun e => by injection e with e; omega)]
      refine iteF ?_
      refine ⟨_, rfl, _, _, rfl, Dy.same S1, fun H2 S2 => ⟨false, rfl, iteT (iteT ⟨_, rfl, fun q hq => ?_⟩)⟩⟩
      have e : stepsRes A (.dict []) = some 1 := rfl
      rw [e] at kG'
      exact kG' H2 q (S1.trans S2) hq
end
end Lk

set_option Elab.async false
set_option linter.all false
set_option maxRecDepth 100000
set_option maxHeartbeats 4000000
namespace Lk
open PySem L2
abbrev s_is_state : Stmt := top 14
abbrev N_is_state : List Str := ["machine", "value"]
abbrev P_is_state : List Str := ["machine", "value"]
theorem sc_is_state : FnScope N_is_state P_is_state (defScope s_is_state) := ⟨rfl, rfl, rfl, by decide +kernel, rfl, by decide +kernel, by decide +kernel⟩
abbrev s_is_command : Stmt := top 15
abbrev N_is_command : List Str := ["machine", "value"]
abbrev P_is_command : List Str := ["machine", "value"]
theorem sc_is_command : FnScope N_is_command P_is_command (defScope s_is_command) := ⟨rfl, rfl, rfl, by decide +kernel, rfl, by decide +kernel, by decide +kernel⟩
abbrev s_checked_row : Stmt := top 16
abbrev N_checked_row : List Str := ["machine", "value", "index", "entry"]
abbrev P_checked_row : List Str := ["machine", "value"]
theorem sc_checked_row : FnScope N_checked_row P_checked_row (defScope s_checked_row) := ⟨rfl, rfl, rfl, by decide +kernel, rfl, by decide +kernel, by decide +kernel⟩
theorem MachAt.same {C : Addr} {H H' : Hp} {m : Addr} {A : Int} {us : List (Addr × List Int)} (k : Same H H') (x : MachAt C H m A us) : MachAt C H' m A us := by
  obtain ⟨dx, t, h1, h2, h3⟩ := x
  exact ⟨dx, t, k _ _ h1, k _ _ h2, fun u hu => k _ _ (h3 u hu)⟩
/-- objects that are no lists stand -/
def NL (H H' : Hp) : Prop := ∀ a o, H a = some o → (∀ xs, o ≠ .lst xs) → H' a = some o
theorem NL.of_sb {d l : Addr} {H H' : Hp} (x : SB d l H H') (D : DealAt H d l) : NL H H' := fun a o h n => by
  obtain ⟨bs, b, y⟩ := D
  refine x a o h (fun e => ?_) fun e => ?_
  · rw [e, y.hd] at h
    exact n _ (Option.some.inj h).symm
  · rw [e, y.hl] at h
    exact n _ (Option.some.inj h).symm
theorem NL.of_same {H H' : Hp} (x : Same H H') : NL H H' := fun a o h _ => x a o h
theorem NL.trans {H H1 H2 : Hp} (x : NL H H1) (y : NL H1 H2) : NL H H2 := fun a o h n => y a o (x a o h n) n
theorem NL.upd {H : Hp} {a : Addr} {xs : List V} {o : HO} (h : H a = some (.lst xs)) : NL H (L2.upd H a o) := fun b u e n => by
  by_cases q : b = a
  · rw [q, h] at e
    exact absurd (Option.some.inj e).symm (n xs)
  · rw [upd_ne q]
    exact e
theorem MachAt.nl {C : Addr} {H H' : Hp} {m : Addr} {A : Int} {us : List (Addr × List Int)} (k : NL H H') (x : MachAt C H m A us) : MachAt C H' m A us := by
  obtain ⟨dx, t, h1, h2, h3⟩ := x
  exact ⟨dx, t, k _ _ h1 (fun _ e => by cases e), k _ _ h2 (fun _ e => by cases e), fun u hu => k _ _ (h3 u hu) (fun _ e => by cases e)⟩
theorem fld_c (A n : Int) (t : Addr) : (fldM A n t).lookup ("commands" : Str) = some (.int A) := by
  unfold fldM
  rw [lookup_putF, if_neg (by decide +kernel), lookup_putF, if_neg (by decide +kernel), lookup_putF, if_pos rfl]
theorem fld_n (A n : Int) (t : Addr) : (fldM A n t).lookup ("states" : Str) = some (.int n) := by
  unfold fldM
  rw [lookup_putF, if_neg (by decide +kernel), lookup_putF, if_pos rfl]
theorem fld_s (A n : Int) (t : Addr) : (fldM A n t).lookup ("steps" : Str) = some (.ref t) := by
  unfold fldM
  rw [lookup_putF, if_pos rfl]
/-- the index of the first entry that is no command -/
def badV (A : Int) : List PyData → Nat → Option Nat
  | [], _ => none
  | e :: r, i => if isB A e = true then badV A r (i + 1) else some i
def rowRes (A : Int) (d : PyData) : Option Nat := if isS d = false then some 0 else badV A (itemsD d) 0
theorem badV_cons {A : Int} {e : PyData} {r : List PyData} {i : Nat} : badV A (e :: r) i = if isB A e = true then badV A r (i + 1) else some i := rfl
theorem badV_none {A : Int} : ∀ {ds : List PyData} {i : Nat}, badV A ds i = none → ds.all (isB A) = true
  | [], _, _ => rfl
  | d :: ds, i, h => by
    rw [badV_cons] at h
    by_cases hE : isB A d = true
    · rw [if_pos hE] at h
      rw [List.all_cons, hE, badV_none h] <;> rfl
    · rw [if_neg hE] at h
      cases h
def spState (CM : Addr) : Sp := fun vs H Q _ => ∃ (m : Addr) (x : V) (d : PyData) (A : Int) (us : List (Addr × List Int)), vs = [.ref m, x] ∧ MachAt CM H m A us ∧ Dv H x d ∧ ∀ H', Same H H' → Q (.bl (isB (us.length : Int) d)) H'
def spCommand (CM : Addr) : Sp := fun vs H Q _ => ∃ (m : Addr) (x : V) (d : PyData) (A : Int) (us : List (Addr × List Int)), vs = [.ref m, x] ∧ MachAt CM H m A us ∧ Dv H x d ∧ ∀ H', Same H H' → Q (.bl (isB A d)) H'
def intsD (d : PyData) : List Int := (itemsD d).map intD
def spChecked (CM CE : Addr) : Sp := fun vs H Q E => ∃ (m : Addr) (x : V) (d : PyData) (A : Int) (us : List (Addr × List Int)), vs = [.ref m, x] ∧ MachAt CM H m A us ∧ Dv H x d ∧ (itemsD d).length ≤ 1000 ∧
  match rowRes A d with
  | some k => ∀ H' q, Same H H' → H' q = none → E (.ref CE) (some q) (upd H' q (.xd [(("at" : Str), .int (k : Int))]))
  | none => ∀ H' t, Same H H' → H' t = some (.tup ((intsD d).map V.int)) → Q (.ref t) H'
section
variable {P : Program} {w : World} {K : PySem.W.Frag} {mg : Str → Option Value} {base : Heap} {CM : Addr}
theorem ok_state {f fb : Addr} {fd fdb : FuncData} (A0 : Df K mg "is_state" s_is_state f fd P_is_state) (d_is_below : Df K mg "is_below" s_is_below fb fdb P_is_below) (G_is_below : FnOk P w K mg base CX0 3 fb fdb P_is_below spBelowS) (TC : TxC K CM) : FnOk P w K mg base CX0 4 f fd P_is_state (spState CM) := by
  refine A0.F.ok sc_is_state (fun vs H Q E h => ?_) (fun cdv Ar outer s H vs Q E hr h => ?_)
  · obtain ⟨m, x, d, A, us, rfl, _⟩ := h
    rfl
  · obtain ⟨m, x, d, A, us, rfl, M, D, k⟩ := h
    refine ⟨_, (pss_one (ps_ret (pe_call G_is_below (hr.mono (by decide)) rfl d_is_below.g d_is_below.F.kp d_is_below.b .nil pass0 (pa_cons (pv 1) (pa_cons (pe_fld (pv 0) rfl) pa_nil))))), ?_⟩
    obtain ⟨dx, t, h1, h2, h3⟩ := M
    exact ⟨_, rfl, _, rfl, m, CM, dx, _, _, rfl, h1, TC.cl, TC.n2, fld_n _ _ _, x, d, _, rfl, D, k⟩
theorem ok_command {f fb : Addr} {fd fdb : FuncData} (A0 : Df K mg "is_command" s_is_command f fd P_is_command) (d_is_below : Df K mg "is_below" s_is_below fb fdb P_is_below) (G_is_below : FnOk P w K mg base CX0 3 fb fdb P_is_below spBelowS) (TC : TxC K CM) : FnOk P w K mg base CX0 4 f fd P_is_command (spCommand CM) := by
  refine A0.F.ok sc_is_command (fun vs H Q E h => ?_) (fun cdv Ar outer s H vs Q E hr h => ?_)
  · obtain ⟨m, x, d, A, us, rfl, _⟩ := h
    rfl
  · obtain ⟨m, x, d, A, us, rfl, M, D, k⟩ := h
    refine ⟨_, (pss_one (ps_ret (pe_call G_is_below (hr.mono (by decide)) rfl d_is_below.g d_is_below.F.kp d_is_below.b .nil pass0 (pa_cons (pv 1) (pa_cons (pe_fld (pv 0) rfl) pa_nil))))), ?_⟩
    obtain ⟨dx, t, h1, h2, h3⟩ := M
    exact ⟨_, rfl, _, rfl, m, CM, dx, _, _, rfl, h1, TC.cl, TC.n1, fld_c _ _ _, x, d, _, rfl, D, k⟩
theorem ok_checked {f fs fc CE fCE : Addr} {fd fds fdc : FuncData} (A0 : Df K mg "checked_row" s_checked_row f fd P_checked_row) (d_is_sequence : Df K mg "is_sequence" s_is_sequence fs fds P_is_sequence) (d_is_command : Df K mg "is_command" s_is_command fc fdc P_is_command) (G_is_command : FnOk P w K mg base CX0 4 fc fdc P_is_command (spCommand CM))
    (T : Txt mg) (TE : PySem.ErrX.ErrTxt K mg "InvalidRow" "InvalidRow.__init__" CE fCE) : FnOk P w K mg base (L2.CX P w) 6 f fd P_checked_row (spChecked CM CE) := by
  have G_is_sequence : FnOk P w K mg base CX0 1 fs fds P_is_sequence (spT1 isS) := ok_sequence d_is_sequence T
  refine A0.F.okX sc_checked_row (fun vs H Q E h => ?_) (fun cdv Ar outer s H vs Q E hr h => ?_)
  · obtain ⟨m, x, d, A, us, rfl, _⟩ := h
    rfl
  · obtain ⟨m, x, d, A, us, rfl, M, D, hz, kR⟩ := h
    cases id D with
    | @lst a xs ds' ha hx => 
      refine ⟨_, (pss_cons (ps_if (pt_not (pt_val (pe_call G_is_sequence (hr.mono (by decide)) rfl d_is_sequence.g d_is_sequence.F.kp d_is_sequence.b .nil pass0 (pa_cons (pv 1) pa_nil)))) (pss_one (ps_raiseLow rfl TE hr (takes_of rfl rfl rfl rfl) (pa_cons pe_int pa_nil) (by rfl))) pss_nil)
    (pss_cons (ps_for (passes_of rfl) rfl (pi_enum (by rfl) T.enumerate (pa_cons (pv 1) pa_nil)) (pg_tup rfl (pgs_cons (pg_name (i := 2) sc_checked_row.nd rfl (Or.inl rfl)) (pgs_cons (pg_name (i := 3) sc_checked_row.nd rfl (Or.inl rfl)) pgs_nil)))
      (pss_one (ps_if (pt_not (pt_val (pe_call G_is_command (hr.mono (by decide)) rfl d_is_command.g d_is_command.F.kp d_is_command.b .nil pass0 (pa_cons (pv 0) (pa_cons (pv 3) pa_nil))))) (pss_one (ps_raiseLow rfl TE hr (takes_of rfl rfl rfl rfl) (pa_cons (pv 2) pa_nil) (by rfl))) pss_nil)))
    (pss_one (ps_ret (pe_tupleOf (by rfl) T.tuple (pv 1)))))), ?_⟩
      have hlen : xs.length = ds'.length := hx.len
      refine ⟨_, rfl, .ref a, _, rfl, D, fun H1 S1 => ⟨true, rfl, iteF ?_⟩⟩
      have eR : rowRes A (.list ds') = badV A ds' 0 := rfl
      rw [eR] at kR
      refine ⟨_, rfl, a, xs, rfl, SqL.of (S1 _ _ ha), for_enumL (K := K) (a := a) (xs := xs) (fun i σ H3 => ∃ v2 v3 : Option V, σ = [some (.ref m), some (.ref a), v2, v3] ∧ Same H H3 ∧ badV A ds' 0 = badV A (ds'.drop i) i) ⟨none, none, rfl, S1, rfl⟩ (fun i σ H3 ⟨_, _, _, S, _⟩ => SqL.of (S _ _ ha)) ?_ ?_⟩
      · rintro i y σ H3 t hi ⟨v2, v3, rfl, S3, eb⟩ ht
        obtain ⟨e, he, De⟩ := hx.get hi
        have S4 : Same H (upd H3 t (HO.tup [V.int ((i : Nat) : Int), y])) := S3.trans (Same.new ht)
        refine ⟨t, _, rfl, SqT.of upd_same, rfl, _, _, rfl, _, _, rfl, rfl, ?_⟩
        refine ⟨_, rfl, _, rfl, m, y, e, A, us, rfl, M.same S4, De.same S4, fun H5 S5 => ⟨isB A e, rfl, ?_⟩⟩
        rw [drop_get he, badV_cons] at eb
        by_cases hE : isB A e = true
        · rw [if_pos hE] at eb
          rw [hE]
          exact iteF ⟨_, _, rfl, S4.trans S5, eb⟩
        · rw [if_neg hE] at eb
          rw [show isB A e = false by simpa using hE]
          refine iteT ⟨_, rfl, _, rfl, fun q hq => ?_⟩
          rw [eb] at kR
          exact kR H5 q (S4.trans S5) hq
      · rintro σ H3 ⟨v2, v3, rfl, S3, eb⟩
        rw [hlen, List.drop_length] at eb
        rw [show badV A ds' 0 = none from eb] at kR
        have hxi : xs = (ds'.map intD).map V.int := hx.ints (n := A) (badV_none eb)
        have ha' := ha
        rw [hxi] at ha'
        refine ⟨_, rfl, .inl ⟨a, _, rfl, SqL.of (S3 _ _ ha'), fun t ht => ?_⟩⟩
        exact kR _ t (S3.trans (Same.new ht)) upd_same

    | @tup a xs ds' ha hx => 
      refine ⟨_, (pss_cons (ps_if (pt_not (pt_val (pe_call G_is_sequence (hr.mono (by decide)) rfl d_is_sequence.g d_is_sequence.F.kp d_is_sequence.b .nil pass0 (pa_cons (pv 1) pa_nil)))) (pss_one (ps_raiseLow rfl TE hr (takes_of rfl rfl rfl rfl) (pa_cons pe_int pa_nil) (by rfl))) pss_nil)
    (pss_cons (ps_for (passes_of rfl) rfl (pi_enumT (by rfl) T.enumerate (pa_cons (pv 1) pa_nil)) (pg_tup rfl (pgs_cons (pg_name (i := 2) sc_checked_row.nd rfl (Or.inl rfl)) (pgs_cons (pg_name (i := 3) sc_checked_row.nd rfl (Or.inl rfl)) pgs_nil)))
      (pss_one (ps_if (pt_not (pt_val (pe_call G_is_command (hr.mono (by decide)) rfl d_is_command.g d_is_command.F.kp d_is_command.b .nil pass0 (pa_cons (pv 0) (pa_cons (pv 3) pa_nil))))) (pss_one (ps_raiseLow rfl TE hr (takes_of rfl rfl rfl rfl) (pa_cons (pv 2) pa_nil) (by rfl))) pss_nil)))
    (pss_one (ps_ret (pe_tupleOf (by rfl) T.tuple (pv 1)))))), ?_⟩
      have hlen : xs.length = ds'.length := hx.len
      refine ⟨_, rfl, .ref a, _, rfl, D, fun H1 S1 => ⟨true, rfl, iteF ?_⟩⟩
      have eR : rowRes A (.tuple ds') = badV A ds' 0 := rfl
      rw [eR] at kR
      refine ⟨_, rfl, a, xs, rfl, SqT.of (S1 _ _ ha), for_enumT (K := K) (a := a) (xs := xs) (fun i σ H3 => ∃ v2 v3 : Option V, σ = [some (.ref m), some (.ref a), v2, v3] ∧ Same H H3 ∧ badV A ds' 0 = badV A (ds'.drop i) i) ⟨none, none, rfl, S1, rfl⟩ (fun i σ H3 ⟨_, _, _, S, _⟩ => SqT.of (S _ _ ha)) ?_ ?_⟩
      · rintro i y σ H3 t hi ⟨v2, v3, rfl, S3, eb⟩ ht
        obtain ⟨e, he, De⟩ := hx.get hi
        have S4 : Same H (upd H3 t (HO.tup [V.int ((i : Nat) : Int), y])) := S3.trans (Same.new ht)
        refine ⟨t, _, rfl, SqT.of upd_same, rfl, _, _, rfl, _, _, rfl, rfl, ?_⟩
        refine ⟨_, rfl, _, rfl, m, y, e, A, us, rfl, M.same S4, De.same S4, fun H5 S5 => ⟨isB A e, rfl, ?_⟩⟩
        rw [drop_get he, badV_cons] at eb
        by_cases hE : isB A e = true
        · rw [if_pos hE] at eb
          rw [hE]
          exact iteF ⟨_, _, rfl, S4.trans S5, eb⟩
        · rw [if_neg hE] at eb
          rw [show isB A e = false by simpa using hE]
          refine iteT ⟨_, rfl, _, rfl, fun q hq => ?_⟩
          rw [eb] at kR
          exact kR H5 q (S4.trans S5) hq
      · rintro σ H3 ⟨v2, v3, rfl, S3, eb⟩
        rw [hlen, List.drop_length] at eb
        rw [show badV A ds' 0 = none from eb] at kR
        have hxi : xs = (ds'.map intD).map V.int := hx.ints (n := A) (badV_none eb)
        have ha' := ha
        rw [hxi] at ha'
        refine ⟨_, rfl, .inr ⟨a, _, rfl, SqT.of (S3 _ _ ha'), ?_⟩⟩
        exact kR _ a S3 (S3 _ _ ha')

    | non => 
      refine ⟨_, (pss_cons (ps_if (pt_not (pt_val (pe_call G_is_sequence (hr.mono (by decide)) rfl d_is_sequence.g d_is_sequence.F.kp d_is_sequence.b .nil pass0 (pa_cons (pv 1) pa_nil)))) (pss_one (ps_raiseLow rfl TE hr (takes_of rfl rfl rfl rfl) (pa_cons pe_int pa_nil) (by rfl))) pss_nil)
    (pss_cons (ps_for (passes_of rfl) rfl (pi_enum (by rfl) T.enumerate (pa_cons (pv 1) pa_nil)) (pg_tup rfl (pgs_cons (pg_name (i := 2) sc_checked_row.nd rfl (Or.inl rfl)) (pgs_cons (pg_name (i := 3) sc_checked_row.nd rfl (Or.inl rfl)) pgs_nil)))
      (pss_one (ps_if (pt_not (pt_val (pe_call G_is_command (hr.mono (by decide)) rfl d_is_command.g d_is_command.F.kp d_is_command.b .nil pass0 (pa_cons (pv 0) (pa_cons (pv 3) pa_nil))))) (pss_one (ps_raiseLow rfl TE hr (takes_of rfl rfl rfl rfl) (pa_cons (pv 2) pa_nil) (by rfl))) pss_nil)))
    (pss_one (ps_ret (pe_tupleOf (by rfl) T.tuple (pv 1)))))), ?_⟩
      refine ⟨_, rfl, _, _, rfl, D, fun H1 S1 => ⟨false, rfl, iteT ⟨_, rfl, fun q hq => ?_⟩⟩⟩
      have e : rowRes A .none = some 0 := rfl
      rw [e] at kR
      exact kR H1 q S1 hq
    | bl b => 
      refine ⟨_, (pss_cons (ps_if (pt_not (pt_val (pe_call G_is_sequence (hr.mono (by decide)) rfl d_is_sequence.g d_is_sequence.F.kp d_is_sequence.b .nil pass0 (pa_cons (pv 1) pa_nil)))) (pss_one (ps_raiseLow rfl TE hr (takes_of rfl rfl rfl rfl) (pa_cons pe_int pa_nil) (by rfl))) pss_nil)
    (pss_cons (ps_for (passes_of rfl) rfl (pi_enum (by rfl) T.enumerate (pa_cons (pv 1) pa_nil)) (pg_tup rfl (pgs_cons (pg_name (i := 2) sc_checked_row.nd rfl (Or.inl rfl)) (pgs_cons (pg_name (i := 3) sc_checked_row.nd rfl (Or.inl rfl)) pgs_nil)))
      (pss_one (ps_if (pt_not (pt_val (pe_call G_is_command (hr.mono (by decide)) rfl d_is_command.g d_is_command.F.kp d_is_command.b .nil pass0 (pa_cons (pv 0) (pa_cons (pv 3) pa_nil))))) (pss_one (ps_raiseLow rfl TE hr (takes_of rfl rfl rfl rfl) (pa_cons (pv 2) pa_nil) (by rfl))) pss_nil)))
    (pss_one (ps_ret (pe_tupleOf (by rfl) T.tuple (pv 1)))))), ?_⟩
      refine ⟨_, rfl, _, _, rfl, D, fun H1 S1 => ⟨false, rfl, iteT ⟨_, rfl, fun q hq => ?_⟩⟩⟩
      have e : rowRes A (.bool b) = some 0 := rfl
      rw [e] at kR
      exact kR H1 q S1 hq
    | int i0 => 
      refine ⟨_, (pss_cons (ps_if (pt_not (pt_val (pe_call G_is_sequence (hr.mono (by decide)) rfl d_is_sequence.g d_is_sequence.F.kp d_is_sequence.b .nil pass0 (pa_cons (pv 1) pa_nil)))) (pss_one (ps_raiseLow rfl TE hr (takes_of rfl rfl rfl rfl) (pa_cons pe_int pa_nil) (by rfl))) pss_nil)
    (pss_cons (ps_for (passes_of rfl) rfl (pi_enum (by rfl) T.enumerate (pa_cons (pv 1) pa_nil)) (pg_tup rfl (pgs_cons (pg_name (i := 2) sc_checked_row.nd rfl (Or.inl rfl)) (pgs_cons (pg_name (i := 3) sc_checked_row.nd rfl (Or.inl rfl)) pgs_nil)))
      (pss_one (ps_if (pt_not (pt_val (pe_call G_is_command (hr.mono (by decide)) rfl d_is_command.g d_is_command.F.kp d_is_command.b .nil pass0 (pa_cons (pv 0) (pa_cons (pv 3) pa_nil))))) (pss_one (ps_raiseLow rfl TE hr (takes_of rfl rfl rfl rfl) (pa_cons (pv 2) pa_nil) (by rfl))) pss_nil)))
    (pss_one (ps_ret (pe_tupleOf (by rfl) T.tuple (pv 1)))))), ?_⟩
      refine ⟨_, rfl, _, _, rfl, D, fun H1 S1 => ⟨false, rfl, iteT ⟨_, rfl, fun q hq => ?_⟩⟩⟩
      have e : rowRes A (.int i0) = some 0 := rfl
      rw [e] at kR
      exact kR H1 q S1 hq
    | str z => 
      refine ⟨_, (pss_cons (ps_if (pt_not (pt_val (pe_call G_is_sequence (hr.mono (by decide)) rfl d_is_sequence.g d_is_sequence.F.kp d_is_sequence.b .nil pass0 (pa_cons (pv 1) pa_nil)))) (pss_one (ps_raiseLow rfl TE hr (takes_of rfl rfl rfl rfl) (pa_cons pe_int pa_nil) (by rfl))) pss_nil)
    (pss_cons (ps_for (passes_of rfl) rfl (pi_enum (by rfl) T.enumerate (pa_cons (pv 1) pa_nil)) (pg_tup rfl (pgs_cons (pg_name (i := 2) sc_checked_row.nd rfl (Or.inl rfl)) (pgs_cons (pg_name (i := 3) sc_checked_row.nd rfl (Or.inl rfl)) pgs_nil)))
      (pss_one (ps_if (pt_not (pt_val (pe_call G_is_command (hr.mono (by decide)) rfl d_is_command.g d_is_command.F.kp d_is_command.b .nil pass0 (pa_cons (pv 0) (pa_cons (pv 3) pa_nil))))) (pss_one (ps_raiseLow rfl TE hr (takes_of rfl rfl rfl rfl) (pa_cons (pv 2) pa_nil) (by rfl))) pss_nil)))
    (pss_one (ps_ret (pe_tupleOf (by rfl) T.tuple (pv 1)))))), ?_⟩
      refine ⟨_, rfl, _, _, rfl, D, fun H1 S1 => ⟨false, rfl, iteT ⟨_, rfl, fun q hq => ?_⟩⟩⟩
      have e : rowRes A (.str z) = some 0 := rfl
      rw [e] at kR
      exact kR H1 q S1 hq
    | dct _ => 
      refine ⟨_, (pss_cons (ps_if (pt_not (pt_val (pe_call G_is_sequence (hr.mono (by decide)) rfl d_is_sequence.g d_is_sequence.F.kp d_is_sequence.b .nil pass0 (pa_cons (pv 1) pa_nil)))) (pss_one (ps_raiseLow rfl TE hr (takes_of rfl rfl rfl rfl) (pa_cons pe_int pa_nil) (by rfl))) pss_nil)
    (pss_cons (ps_for (passes_of rfl) rfl (pi_enum (by rfl) T.enumerate (pa_cons (pv 1) pa_nil)) (pg_tup rfl (pgs_cons (pg_name (i := 2) sc_checked_row.nd rfl (Or.inl rfl)) (pgs_cons (pg_name (i := 3) sc_checked_row.nd rfl (Or.inl rfl)) pgs_nil)))
      (pss_one (ps_if (pt_not (pt_val (pe_call G_is_command (hr.mono (by decide)) rfl d_is_command.g d_is_command.F.kp d_is_command.b .nil pass0 (pa_cons (pv 0) (pa_cons (pv 3) pa_nil))))) (pss_one (ps_raiseLow rfl TE hr (takes_of rfl rfl rfl rfl) (pa_cons (pv 2) pa_nil) (by rfl))) pss_nil)))
    (pss_one (ps_ret (pe_tupleOf (by rfl) T.tuple (pv 1)))))), ?_⟩
      refine ⟨_, rfl, _, _, rfl, D, fun H1 S1 => ⟨false, rfl, iteT ⟨_, rfl, fun q hq => ?_⟩⟩⟩
      have e : rowRes A (.dict []) = some 0 := rfl
      rw [e] at kR
      exact kR H1 q S1 hq
end
end Lk

set_option Elab.async false
set_option linter.all false
set_option maxRecDepth 100000
set_option maxHeartbeats 4000000
namespace Lk
open PySem L2
abbrev s_end_state : Stmt := top 17
abbrev N_end_state : List Str := ["machine", "state", "row", "end", "command"]
abbrev P_end_state : List Str := ["machine", "state", "row"]
theorem sc_end_state : FnScope N_end_state P_end_state (defScope s_end_state) := ⟨rfl, rfl, rfl, by decide +kernel, rfl, by decide +kernel, by decide +kernel⟩
abbrev s_resting : Stmt := top 18
abbrev N_resting : List Str := ["machine"]
abbrev P_resting : List Str := ["machine"]
theorem sc_resting : FnScope N_resting P_resting (defScope s_resting) := ⟨rfl, rfl, rfl, by decide +kernel, rfl, by decide +kernel, by decide +kernel⟩
abbrev s_effects : Stmt := top 19
abbrev N_effects : List Str := ["machine", "entry", "command"]
abbrev P_effects : List Str := ["machine"]
theorem sc_effects : FnScope N_effects P_effects (defScope s_effects) := ⟨rfl, rfl, rfl, by decide +kernel, rfl, by decide +kernel, by decide +kernel⟩
abbrev s_followed : Stmt := top 20
abbrev N_followed : List Str := ["one", "other", "state"]
abbrev P_followed : List Str := ["one", "other"]
theorem sc_followed : FnScope N_followed P_followed (defScope s_followed) := ⟨rfl, rfl, rfl, by decide +kernel, rfl, by decide +kernel, by decide +kernel⟩
abbrev s_effect : Stmt := top 21
abbrev N_effect : List Str := ["machine", "row", "each", "ends", "command"]
abbrev P_effect : List Str := ["machine", "row"]
theorem sc_effect : FnScope N_effect P_effect (defScope s_effect) := ⟨rfl, rfl, rfl, by decide +kernel, rfl, by decide +kernel, by decide +kernel⟩
abbrev s_effect_of_power : Stmt := top 22
abbrev N_effect_of_power : List Str := ["machine", "row", "times", "power", "ends", "left"]
abbrev P_effect_of_power : List Str := ["machine", "row", "times"]
theorem sc_effect_of_power : FnScope N_effect_of_power P_effect_of_power (defScope s_effect_of_power) := ⟨rfl, rfl, rfl, by decide +kernel, rfl, by decide +kernel, by decide +kernel⟩
/-! ### what is told of a machine -/
/-- a machine's data: A commands, rows of states -/
structure MOk (A : Int) (us : List (Addr × List Int)) : Prop where
  a0 : 0 < A
  a1 : A ≤ 1000
  n1 : us.length ≤ 1000
  rs : Rs A.toNat (rsOf us)
theorem rsOf_len (us : List (Addr × List Int)) : (rsOf us).length = us.length := List.length_map ..
/-- the column of a command -/
def col (rs : List (List Int)) (c : Nat) : List Int := rs.map fun r => r.getD c 0
theorem inB {A : Int} {ds : List PyData} (h : ds.all (isB A) = true) : ∀ c ∈ ds.map intD, 0 ≤ c ∧ c < A := fun c hc => by
  obtain ⟨d, hd, rfl⟩ := List.mem_map.mp hc
  have q := List.all_eq_true.mp h d hd
  cases d with
  | int i =>
    have q' : (decide (0 ≤ i) && decide (i < A)) = true := q
    rw [Bool.and_eq_true] at q'
    exact ⟨of_decide_eq_true q'.1, of_decide_eq_true q'.2⟩
  | none => cases q
  | bool _ => cases q
  | str _ => cases q
  | list _ => cases q
  | tuple _ => cases q
  | dict _ => cases q
theorem rowRes_in {A : Int} {d : PyData} (h : rowRes A d = none) : ∀ c ∈ intsD d, 0 ≤ c ∧ c < A := by
  unfold rowRes at h
  by_cases hs : isS d = false
  · rw [if_pos hs] at h
    cases h
  · rw [if_neg hs] at h
    exact inB (badV_none h)
theorem effs_nil (rs : List (List Int)) : effs rs [] = rng rs.length := rfl
theorem effs_snoc {A : Nat} {rs : List (List Int)} (x : Rs A rs) {ns : List Int} {c : Int} (h : ∀ z ∈ ns, 0 ≤ z ∧ z < (A : Int)) (c0 : 0 ≤ c) : comp (effs rs ns) (col rs c.toNat) = effs rs (ns ++ [c]) := by
  unfold comp effs
  rw [List.map_map]
  refine List.map_congr_left fun s hs => ?_
  have hs' := List.mem_range.mp hs
  have hl := x.led (ns := ns) (s := (s : Int)) (by omega) (by omega) h
  show (col rs c.toNat).getD (led rs (s : Int) ns).toNat 0 = led rs (s : Int) (ns ++ [c])
  have e : led rs (s : Int) (ns ++ [c]) = stp rs (led rs (s : Int) ns) c := by
    unfold led
    rw [List.foldl_append]
    rfl
  rw [e]
  unfold stp col
  have hi := item_of hl.1 hl.2 ([] : List Int)
  rw [List.getD_eq_getElem?_getD, List.getElem?_map, hi]
  rfl
def spEnd (CM CR CW : Addr) : Sp := fun vs H Q E => ∃ (m : Addr) (x y : V) (dx dy : PyData) (A : Int) (us : List (Addr × List Int)), vs = [.ref m, x, y] ∧ MachAt CM H m A us ∧ MOk A us ∧ Dv H x dx ∧ Dv H y dy ∧ (itemsD dy).length ≤ 1000 ∧
  (isB (us.length : Int) dx = false → ∀ H' q, Same H H' → H' q = none → E (.ref CR) (some q) (upd H' q (.xd [(("at" : Str), .int 0)]))) ∧
  (isB (us.length : Int) dx = true → match rowRes A dy with
    | some k => ∀ H' q, Same H H' → H' q = none → E (.ref CW) (some q) (upd H' q (.xd [(("at" : Str), .int (k : Int))]))
    | none => ∀ H', Same H H' → Q (.int (led (rsOf us) (intD dx) (intsD dy))) H')
def spResting (CM : Addr) : Sp := fun vs H Q _ => ∃ (m : Addr) (A : Int) (us : List (Addr × List Int)), vs = [.ref m] ∧ MachAt CM H m A us ∧ us.length ≤ 1000 ∧ ∀ t, H t = none → Q (.ref t) (upd H t (.tup ((rng us.length).map V.int)))
def spEffects (CM : Addr) : Sp := fun vs H Q _ => ∃ (m : Addr) (A : Int) (us : List (Addr × List Int)), vs = [.ref m] ∧ MachAt CM H m A us ∧ MOk A us ∧
  ∀ H' t (ts : List (Addr × List Int)), Same H H' → H' t = some (.tup (ts.map fun u => V.ref u.1)) → (ts.length : Int) = A → (∀ u ∈ ts, H' u.1 = some (.tup (u.2.map V.int))) → (∀ (i : Nat) u, ts[i]? = some u → u.2 = col (rsOf us) i) → Q (.ref t) H'
def spFollowed : Sp := fun vs H Q _ => ∃ (a b : Addr) (f g : List Int), vs = [.ref a, .ref b] ∧ H a = some (.tup (f.map V.int)) ∧ H b = some (.tup (g.map V.int)) ∧ f.length ≤ 1000 ∧ (∀ z ∈ f, 0 ≤ z ∧ z < (g.length : Int)) ∧
  ∀ H' t, Same H H' → H' t = some (.tup ((comp f g).map V.int)) → Q (.ref t) H'
def spEff (CM CW : Addr) : Sp := fun vs H Q E => ∃ (m : Addr) (y : V) (dy : PyData) (A : Int) (us : List (Addr × List Int)), vs = [.ref m, y] ∧ MachAt CM H m A us ∧ MOk A us ∧ Dv H y dy ∧ (itemsD dy).length ≤ 1000 ∧
  match rowRes A dy with
  | some k => ∀ H' q, Same H H' → H' q = none → E (.ref CW) (some q) (upd H' q (.xd [(("at" : Str), .int (k : Int))]))
  | none => ∀ H' t, Same H H' → H' t = some (.tup ((effs (rsOf us) (intsD dy)).map V.int)) → Q (.ref t) H'
def spEop (CM CW : Addr) : Sp := fun vs H Q E => ∃ (m : Addr) (y : V) (dy : PyData) (A : Int) (us : List (Addr × List Int)) (n : Nat), vs = [.ref m, y, .int (n : Int)] ∧ MachAt CM H m A us ∧ MOk A us ∧ Dv H y dy ∧ (itemsD dy).length ≤ 1000 ∧ n < 2 ^ 63 ∧
  match rowRes A dy with
  | some k => ∀ H' q, Same H H' → H' q = none → E (.ref CW) (some q) (upd H' q (.xd [(("at" : Str), .int (k : Int))]))
  | none => ∀ H' t, Same H H' → H' t = some (.tup ((powG 63 n (effs (rsOf us) (intsD dy)) (rng us.length)).map V.int)) → Q (.ref t) H'
section
variable {P : Program} {w : World} {K : PySem.W.Frag} {mg : Str → Option Value} {base : Heap} {CM CR CW : Addr}
theorem ok_end {f fs fc fR fW : Addr} {fd fds fdc : FuncData} (A0 : Df K mg "end_state" s_end_state f fd P_end_state) (d_is_state : Df K mg "is_state" s_is_state fs fds P_is_state) (d_checked_row : Df K mg "checked_row" s_checked_row fc fdc P_checked_row)
    (G_is_state : FnOk P w K mg base CX0 4 fs fds P_is_state (spState CM)) (G_checked_row : FnOk P w K mg base (L2.CX P w) 6 fc fdc P_checked_row (spChecked CM CW)) (TC : TxC K CM) (TE : PySem.ErrX.ErrTxt K mg "Refused" "Refused.__init__" CR fR) : FnOk P w K mg base (L2.CX P w) 7 f fd P_end_state (spEnd CM CR CW) := by
  refine A0.F.okX sc_end_state (fun vs H Q E h => ?_) (fun cdv Ar outer s H vs Q E hr h => ?_)
  · obtain ⟨m, x, y, dx, dy, A, us, rfl, _⟩ := h
    rfl
  · obtain ⟨m, x, y, dx, dy, A, us, rfl, M, O, Dx, Dy, hz, kB, kG⟩ := h
    have tk : Takes (cxOf (L2.CX P w) P w K mg base N_end_state "end_state" (defScope s_end_state) f cdv Ar outer s H E) (fun cls d _ H => E cls d H) := takes_of rfl rfl rfl rfl
    refine ⟨_, (pss_cons (ps_if (pt_not (pt_val (pe_call G_is_state (hr.mono (by decide)) rfl d_is_state.g d_is_state.F.kp d_is_state.b .nil pass0 (pa_cons (pv 0) (pa_cons (pv 1) pa_nil))))) (pss_one (ps_raiseLow rfl TE hr tk (pa_cons pe_int pa_nil) (by rfl))) pss_nil)
    (pss_cons (ps_set (i := 3) sc_end_state.nd rfl (Or.inl rfl) (pv 1))
    (pss_cons (ps_for (passes_of rfl) rfl (pi_tup (pe_callS G_checked_row (hr.mono (by decide)) rfl d_checked_row.g d_checked_row.F.kp d_checked_row.b (fun σ => passAt tk σ) (pa_cons (pv 0) (pa_cons (pv 2) pa_nil)))) (pg_name (i := 4) sc_end_state.nd rfl (Or.inl rfl))
      (pss_one (ps_set (i := 3) sc_end_state.nd rfl (Or.inl rfl) (pe_ix ix_tup (pe_ix ix_tup (pe_fld (pv 0) rfl) (pv 3) (fun _ _ => rfl)) (pv 4) (fun _ _ => rfl)))))
    (pss_one (ps_ret (pv 3)))))), ?_⟩
    refine ⟨_, rfl, _, rfl, m, x, dx, A, us, rfl, M, Dx, fun H1 S1 => ⟨isB (us.length : Int) dx, rfl, ?_⟩⟩
    cases hb : isB (us.length : Int) dx with
    | false => exact iteT ⟨_, rfl, fun q hq => kB hb H1 q S1 hq⟩
    | true =>
      have kG' := kG hb
      refine iteF ?_
      obtain ⟨z, rfl, z0, z1⟩ : ∃ z : Int, dx = .int z ∧ 0 ≤ z ∧ z < us.length := by
        cases dx with
        | int i =>
          have q' : (decide (0 ≤ i) && decide (i < (us.length : Int))) = true := hb
          rw [Bool.and_eq_true] at q'
          exact ⟨i, rfl, of_decide_eq_true q'.1, of_decide_eq_true q'.2⟩
        | none => cases hb
        | bool _ => cases hb
        | str _ => cases hb
        | list _ => cases hb
        | tuple _ => cases hb
        | dict _ => cases hb
      obtain rfl : x = V.int z := by cases Dx; rfl
      refine ⟨_, rfl, ?_⟩
      refine ⟨_, rfl, _, rfl, m, y, dy, A, us, rfl, M.same S1, Dy.same S1, hz, ?_⟩
      cases hrr : rowRes A dy with
      | some k =>
        rw [hrr] at kG'
        exact fun H' q S' hq => kG' H' q (S1.trans S') hq
      | none =>
        rw [hrr] at kG'
        have hin := rowRes_in hrr
        intro H2 t S2 ht
        have S12 := S1.trans S2
        obtain ⟨dxm, tm, M1, M2, M3⟩ := M.same S12
        refine ⟨t, rfl, ⟨_, SqT.of ht⟩, for_tup (K := K) (a := t) (xs := (intsD dy).map V.int) (fun i σ H3 => H3 = H2 ∧ ∃ v : Option V, σ = [some (.ref m), some (.int z), some y, some (.int (led (rsOf us) z ((intsD dy).take i))), v]) ⟨rfl, none, rfl⟩ (fun i σ H3 _ e => by rw [e.1]; exact SqT.of ht) ?_ ?_⟩
        · rintro i v0 σ H3 hi ⟨rfl, v, rfl⟩
          obtain ⟨c, hci, rfl⟩ : ∃ c, (intsD dy)[i]? = some c ∧ V.int c = v0 := by
            rw [List.getElem?_map] at hi
            cases e : (intsD dy)[i]? with
            | none => rw [e] at hi; cases hi
            | some c => rw [e] at hi; exact ⟨c, rfl, Option.some.inj hi⟩
          have hcm := hin c (mem_of_get hci)
          have hA := O.a0
          have hs := O.rs.led (ns := (intsD dy).take i) (s := z) z0 (by rw [rsOf_len]; exact z1) fun q hq => by
            have := hin q (List.mem_of_mem_take hq)
            omega
          rw [rsOf_len] at hs
          have hlt : (led (rsOf us) z ((intsD dy).take i)).toNat < us.length := by omega
          have hu : us[(led (rsOf us) z ((intsD dy).take i)).toNat]? = some us[(led (rsOf us) z ((intsD dy).take i)).toNat] := List.getElem?_eq_getElem hlt
          have hr2 := rsOf_get hu
          obtain ⟨ru, _⟩ := O.rs.row _ (mem_of_get hr2)
          refine ⟨_, rfl, m, CM, dxm, _, _, rfl, M1, TC.cl, TC.n3, fld_s _ _ _, _, rfl, tm, _, _, _, rfl, rfl, SqT.of M2, atI_int hs.1 (by rw [List.getElem?_map, hu] <;> rfl), _, rfl, _, _, c, V.int (us[(led (rsOf us) z ((intsD dy).take i)).toNat].2.getD c.toNat 0), rfl, rfl, SqT.of (M3 _ (mem_of_get hu)), atI_int hcm.1 ?_, ?_⟩
          · rw [List.getElem?_map, item_of hcm.1 (by rw [ru]; omega) 0]
            rfl
          · refine ⟨rfl, some (.int c), ?_⟩
            have e : led (rsOf us) z ((intsD dy).take (i + 1)) = us[(led (rsOf us) z ((intsD dy).take i)).toNat].2.getD c.toNat 0 := by
              have e0 : led (rsOf us) z ((intsD dy).take (i + 1)) = stp (rsOf us) (led (rsOf us) z ((intsD dy).take i)) c := by
                show List.foldl _ _ _ = _
                rw [take_next hci, List.foldl_append]
                rfl
              rw [e0]
              show ((rsOf us).getD (led (rsOf us) z ((intsD dy).take i)).toNat []).getD c.toNat 0 = _
              rw [getD_of hr2]
            rw [e]
            rfl
        · rintro σ H3 ⟨rfl, v, rfl⟩
          rw [List.length_map, List.take_length]
          exact ⟨_, rfl, kG' _ S12⟩
theorem ok_resting {f : Addr} {fd : FuncData} (A0 : Df K mg "resting" s_resting f fd P_resting) (T : Txt mg) (TC : TxC K CM) : FnOk P w K mg base CX0 1 f fd P_resting (spResting CM) := by
  refine A0.F.ok sc_resting (fun vs H Q E h => ?_) (fun cdv Ar outer s H vs Q E hr h => ?_)
  · obtain ⟨m, A, us, rfl, _⟩ := h
    rfl
  · obtain ⟨m, A, us, rfl, M, hz, k⟩ := h
    refine ⟨_, (pss_one (ps_ret (pe_tupRg rfl (by rfl) T.tuple (prg_1 (by rfl) T.range (pe_fld (pv 0) rfl))))), ?_⟩
    obtain ⟨dx, t, h1, h2, h3⟩ := M
    refine ⟨_, rfl, m, CM, dx, _, _, rfl, h1, TC.cl, TC.n2, fld_n _ _ _, _, rfl, RgOk.of_le (by decide) (by omega) (by decide) (by omega), fun q hq => ?_⟩
    rw [rgV_rng]
    exact k q hq
theorem ok_followed {f : Addr} {fd : FuncData} (A0 : Df K mg "followed" s_followed f fd P_followed) (T : Txt mg) : FnOk P w K mg base CX0 1 f fd P_followed spFollowed := by
  refine A0.F.ok sc_followed (fun vs H Q E h => ?_) (fun cdv Ar outer s H vs Q E hr h => ?_)
  · obtain ⟨a, b, ff, g, rfl, _⟩ := h
    rfl
  · obtain ⟨a, b, ff, g, rfl, ha, hb, hl, hin, k⟩ := h
    refine ⟨_, (pss_one (ps_ret (pe_tupleOf (by rfl) T.tuple (pe_lc (own := [("state", 2)]) (g := gName 2) (tt := tYes) (te := tOp (rIxT K) (tVar 1) (tVar 2)) rfl sc_followed.nd (pi_tup (pv 0)) (blkOk_by (N := N_followed) (sc := defScope s_followed) (by decide +kernel)) (fun _ _ _ _ _ => (pg_name (i := 2) sc_followed.nd rfl (Or.inl rfl))) (fun _ _ _ _ _ => pts_nil) (fun _ _ _ _ _ => (pe_ix ix_tup (pv 1) (pv 2) (fun _ _ => rfl))))))), ?_⟩
    refine ⟨_, rfl, a, rfl, ⟨_, SqT.of ha⟩, fun D hD => ?_⟩
    refine lcPT (K := K) (a := a) (xs := ff.map V.int) (fC g) hD (by rw [List.length_map]; omega) (SqT.of ha) (fun y hy H2 S2 Q2 kQ => ?_) (fun H2 e2 S2 => .inl ⟨D, _, rfl, SqL.of e2, fun t ht => ?_⟩)
    · obtain ⟨z, hz, rfl⟩ := List.mem_map.mp hy
      obtain ⟨z0, z1⟩ := hin z hz
      exact ⟨_, rfl, _, rfl, b, _, z, _, rfl, rfl, SqT.of (S2 _ _ hb), atI_int z0 (by rw [List.getElem?_map, item_of z0 z1 (0 : Int)] <;> rfl), kQ _ (Same.refl _)⟩
    · refine k _ t (S2.trans (Same.new ht)) ?_
      rw [upd_same, fC_map]
end
end Lk

set_option Elab.async false
set_option linter.all false
set_option maxRecDepth 100000
set_option maxHeartbeats 4000000
namespace Lk
open PySem L2
theorem powG_zero (kk : Nat) (a b : List Int) : powG kk 0 a b = b := by
  cases kk <;> rfl
theorem powG_step {kk t : Nat} (h : 0 < t) (a b : List Int) : powG (kk + 1) t a b = powG kk (t / 2) (comp a a) (if t % 2 = 1 then comp b a else b) := by
  show (if t = 0 then b else _) = _
  rw [if_neg (by omega)]
theorem effs_in {A : Nat} {rs : List (List Int)} (x : Rs A rs) {ns : List Int} (h : ∀ z ∈ ns, 0 ≤ z ∧ z < (A : Int)) : InR rs.length (effs rs ns) := by
  refine ⟨by unfold effs; simp, fun z hz => ?_⟩
  obtain ⟨s, hs, rfl⟩ := List.mem_map.mp hz
  have hs' := List.mem_range.mp hs
  exact x.led (by omega) (by omega) h
section
variable {P : Program} {w : World} {K : PySem.W.Frag} {mg : Str → Option Value} {base : Heap} {CM CR CW : Addr}
theorem ok_effects {f : Addr} {fd : FuncData} (A0 : Df K mg "effects" s_effects f fd P_effects) (T : Txt mg) (TC : TxC K CM) : FnOk P w K mg base CX0 1 f fd P_effects (spEffects CM) := by
  refine A0.F.ok sc_effects (fun vs H Q E h => ?_) (fun cdv Ar outer s H vs Q E hr h => ?_)
  · obtain ⟨m, A, us, rfl, _⟩ := h
    rfl
  · obtain ⟨m, A, us, rfl, M, O, k⟩ := h
    refine ⟨_, (pss_one (ps_ret (pe_tupleOf (by rfl) T.tuple (pe_lc (own := [("command", 2)]) (g := gName 2) (tt := tYes) (te := tThen (tLc (iTup K (tFld K (tVar 0) "steps")) (gName 1) tYes (tOp (rIxT K) (tVar 1) (tVar 2)) [1]) (kTup K)) rfl sc_effects.nd (pi_range1 rfl T.range (pa_cons (pe_fld (pv 0) rfl) pa_nil)) (blkOk_by (N := N_effects) (sc := defScope s_effects) (by decide +kernel)) (fun _ _ _ _ _ => (pg_name (i := 2) sc_effects.nd rfl (Or.inr rfl))) (fun _ _ _ _ _ => pts_nil)
      (fun _ _ _ _ _ => (pe_tupleOf (by rfl) T.tuple (pe_lc (own := [("entry", 1)]) (wi := iTup K (tFld K (tVar 0) "steps")) (g := gName 1) (tt := tYes) (te := tOp (rIxT K) (tVar 1) (tVar 2)) rfl sc_effects.nd (pi_tup (pe_fld (pv 0) rfl)) (blkOk_by (N := N_effects) (sc := { kind := .function, names := [(".0", .local), ("command", .cell), ("tuple", .globalImplicit), ("machine", .cell)], isGenerator := false, isCoroutine := false }) (by decide +kernel)) (fun _ _ _ _ _ => (pg_name (i := 1) sc_effects.nd rfl (Or.inl rfl))) (fun _ _ _ _ _ => pts_nil) (fun _ _ _ _ _ => (pe_ix ix_tup (pv 1) (pv 2) (fun _ _ => rfl)))))))))), ?_⟩
    have hA := O.a0
    have hA1 := O.a1
    obtain ⟨dx, t, h1, h2, h3⟩ := id M
    refine ⟨_, rfl, m, CM, dx, _, _, rfl, h1, TC.cl, TC.n1, fld_c _ _ _, A, rfl, by omega, by omega, fun D hD => ?_⟩
    refine lcR (lo := 0) (n := A.toNat) (fun _ => False) (fun _ => True) (fun i y H' => ∃ u : Addr × List Int, y = V.ref u.1 ∧ u.1 ≠ D ∧ H' u.1 = some (.tup (u.2.map V.int)) ∧ u.2 = col (rsOf us) i) hD id (by omega) trivial (fun _ _ _ => trivial) (fun i y H1 H2 kp ⟨u, e1, e2, e3, e4⟩ => ⟨u, e1, e2, kp.get (fun q => q.elim id e2) e3, e4⟩) (fun i H1 acc hi _ k1 hD1 Q1 kQ => ?_) (fun ys H' hl hf hD' _ kp => ?_)
    · have S1 : Same H H1 := k1.toSame
      refine ⟨_, rfl, m, CM, dx, _, _, rfl, S1 _ _ h1, TC.cl, TC.n3, fld_s _ _ _, t, rfl, ⟨_, SqT.of (S1 _ _ h2)⟩, fun D2 hD2 => ?_⟩
      refine lcTT (K := K) (a := t) (xs := us.map fun u => V.ref u.1) (fun _ => False) (fun _ => True) (fun k y _ => ∃ z : Int, y = V.int z ∧ ∃ u, us[k]? = some u ∧ z = u.2.getD i 0) hD2 id (by rw [List.length_map]; have := O.n1; omega) trivial (fun _ _ _ => trivial) (fun _ _ _ _ _ x => x) (fun H2 kp => SqT.of (kp.get id (S1 _ _ h2)))
        (fun k y H2 acc2 hk _ k2 _ Q2 kQ2 => ?_) (fun ys2 H3 hl2 hf2 hD3 _ kp3 => ?_)
      · rw [List.getElem?_map] at hk
        obtain ⟨u, hu, rfl⟩ : ∃ u, us[k]? = some u ∧ V.ref u.1 = y := by
          cases e : us[k]? with
          | none => rw [e] at hk; cases hk
          | some u => rw [e] at hk; exact ⟨u, rfl, Option.some.inj hk⟩
        obtain ⟨ru, _⟩ := O.rs.row _ (mem_of_get (rsOf_get hu))
        have hlt : ((0 : Int) + (i : Int)) < (u.2.length : Int) := by rw [ru]; omega
        refine ⟨_, rfl, _, rfl, u.1, _, _, V.int (u.2.getD i 0), rfl, rfl, SqT.of (k2.get id (S1 _ _ (h3 u (mem_of_get hu)))), atI_int (by omega) ?_, kQ2 _ _ trivial (KP.refl _ _) ⟨_, rfl, u, hu, rfl⟩⟩
        have e := item_of (show 0 ≤ (0 : Int) + (i : Int) by omega) hlt (0 : Int)
        have e2 : ((0 : Int) + (i : Int)).toNat = i := by omega
        rw [e2] at e ⊢
        rw [List.getElem?_map, e]
        rfl
      · obtain ⟨zs, rfl, hz⟩ := collect (g := V.int) hf2
        refine .inl ⟨D2, _, rfl, SqL.of hD3, fun q hq => ?_⟩
        refine kQ _ _ trivial (kp3.trans (KP.new hq)) ⟨(q, zs), rfl, fun e => ?_, upd_same, ?_⟩
        · have e' : q = D := e
          have hD4 := kp3.get id hD1
          rw [e', hD4] at hq
          cases hq
        · rw [List.length_map, List.length_map] at hl2
          refine List.ext_getElem? fun k => ?_
          unfold col
          rw [List.getElem?_map]
          cases hk : us[k]? with
          | none =>
            have q1 : us.length ≤ k := List.getElem?_eq_none_iff.mp hk
            have q2 : zs[k]? = none := List.getElem?_eq_none_iff.mpr (by omega)
            have q3 : (rsOf us)[k]? = none := List.getElem?_eq_none_iff.mpr (by rw [rsOf_len]; exact q1)
            rw [q2, q3] <;> rfl
          | some u =>
            have hzk : k < zs.length := by
              have := (List.getElem?_eq_some_iff.mp hk).1
              omega
            obtain ⟨u', hu', e⟩ := hz k _ (List.getElem?_eq_getElem hzk)
            rw [hk] at hu'
            cases hu'
            rw [List.getElem?_eq_getElem hzk, e, rsOf_get hk]
            rfl
    · obtain ⟨ts, rfl, ht⟩ := collect (g := fun u : Addr × List Int => V.ref u.1) hf
      rw [List.length_map] at hl
      refine .inl ⟨D, _, rfl, SqL.of hD', fun q hq => ?_⟩
      refine k _ q ts (kp.toSame.trans (Same.new hq)) upd_same (by omega) (fun u hu => ?_) (fun i u hi => (ht i u hi).2.2)
      obtain ⟨i, hi⟩ := List.getElem?_of_mem hu
      exact nk (ht i u hi).2.1 hq
theorem ok_eff {f fe fr fo fc fW : Addr} {fd fde fdr fdo fdc : FuncData} (A0 : Df K mg "effect" s_effect f fd P_effect) (d_effects : Df K mg "effects" s_effects fe fde P_effects) (d_resting : Df K mg "resting" s_resting fr fdr P_resting) (d_followed : Df K mg "followed" s_followed fo fdo P_followed) (d_checked_row : Df K mg "checked_row" s_checked_row fc fdc P_checked_row)
    (G_checked_row : FnOk P w K mg base (L2.CX P w) 6 fc fdc P_checked_row (spChecked CM CW)) (T : Txt mg) (TC : TxC K CM) : FnOk P w K mg base (L2.CX P w) 7 f fd P_effect (spEff CM CW) := by
  have G_effects : FnOk P w K mg base CX0 1 fe fde P_effects (spEffects CM) := ok_effects d_effects T TC
  have G_resting : FnOk P w K mg base CX0 1 fr fdr P_resting (spResting CM) := ok_resting d_resting T TC
  have G_followed : FnOk P w K mg base CX0 1 fo fdo P_followed spFollowed := ok_followed d_followed T
  refine A0.F.okX sc_effect (fun vs H Q E h => ?_) (fun cdv Ar outer s H vs Q E hr h => ?_)
  · obtain ⟨m, y, dy, A, us, rfl, _⟩ := h
    rfl
  · obtain ⟨m, y, dy, A, us, rfl, M, O, Dy, hz, kG⟩ := h
    have tk : Takes (cxOf (L2.CX P w) P w K mg base N_effect "effect" (defScope s_effect) f cdv Ar outer s H E) (fun cls d _ H => E cls d H) := takes_of rfl rfl rfl rfl
    refine ⟨_, (pss_cons (ps_set (i := 2) sc_effect.nd rfl (Or.inl rfl) (pe_call G_effects (hr.mono (by decide)) rfl d_effects.g d_effects.F.kp d_effects.b .nil pass0 (pa_cons (pv 0) pa_nil)))
    (pss_cons (ps_set (i := 3) sc_effect.nd rfl (Or.inl rfl) (pe_call G_resting (hr.mono (by decide)) rfl d_resting.g d_resting.F.kp d_resting.b .nil pass0 (pa_cons (pv 0) pa_nil)))
    (pss_cons (ps_for (passes_of rfl) rfl (pi_tup (pe_callS G_checked_row (hr.mono (by decide)) rfl d_checked_row.g d_checked_row.F.kp d_checked_row.b (fun σ => passAt tk σ) (pa_cons (pv 0) (pa_cons (pv 1) pa_nil)))) (pg_name (i := 4) sc_effect.nd rfl (Or.inl rfl))
      (pss_one (ps_set (i := 3) sc_effect.nd rfl (Or.inl rfl) (pe_call G_followed (hr.mono (by decide)) rfl d_followed.g d_followed.F.kp d_followed.b .nil pass0 (pa_cons (pv 3) (pa_cons (pe_ix ix_tup (pv 2) (pv 4) (fun _ _ => rfl)) pa_nil))))))
    (pss_one (ps_ret (pv 3)))))), ?_⟩
    have hA := O.a0
    have hn1 := O.n1
    refine ⟨_, rfl, m, A, us, rfl, M, O, fun H1 te ts S1 hte hlt hrow hcol => ?_⟩
    refine ⟨_, rfl, m, A, us, rfl, M.same S1, hn1, fun tr htr => ?_⟩
    have S2 : Same H1 (upd H1 tr (HO.tup ((rng us.length).map V.int))) := Same.new htr
    have S02 := S1.trans S2
    refine ⟨_, rfl, _, rfl, m, y, dy, A, us, rfl, M.same S02, Dy.same S02, hz, ?_⟩
    cases hrr : rowRes A dy with
    | some k =>
      rw [hrr] at kG
      exact fun H' q S' hq => kG H' q (S02.trans S') hq
    | none =>
      rw [hrr] at kG
      have hin := rowRes_in hrr
      have hinN : ∀ (l : List Int), (∀ z ∈ l, z ∈ intsD dy) → ∀ z ∈ l, 0 ≤ z ∧ z < ((A.toNat : Nat) : Int) := fun l hl z hz => by
        have := hin z (hl z hz)
        omega
      intro H3 t S3 ht
      refine ⟨t, rfl, ⟨_, SqT.of ht⟩, for_tup (K := K) (a := t) (xs := (intsD dy).map V.int) (fun i σ H4 => ∃ (q : Addr) (v : Option V), σ = [some (.ref m), some y, some (.ref te), some (.ref q), v] ∧ Same H3 H4 ∧ H4 q = some (.tup ((effs (rsOf us) ((intsD dy).take i)).map V.int))) ⟨tr, none, rfl, Same.refl _, ?_⟩ (fun i σ H4 _ ⟨_, _, _, S4, _⟩ => SqT.of (S4 _ _ ht)) ?_ ?_⟩
      · rw [List.take_zero, effs_nil, rsOf_len]
        exact S3 _ _ upd_same
      · rintro i v0 σ H4 hi ⟨q, v, rfl, S4, hq⟩
        obtain ⟨c, hci, rfl⟩ : ∃ c, (intsD dy)[i]? = some c ∧ V.int c = v0 := by
          rw [List.getElem?_map] at hi
          cases e : (intsD dy)[i]? with
          | none => rw [e] at hi; cases hi
          | some c => rw [e] at hi; exact ⟨c, rfl, Option.some.inj hi⟩
        have hcm := hin c (mem_of_get hci)
        have hlt2 : c.toNat < ts.length := by omega
        have hu : ts[c.toNat]? = some ts[c.toNat] := List.getElem?_eq_getElem hlt2
        have S24 := (S2.trans S3).trans S4
        have hE := effs_in O.rs (ns := (intsD dy).take i) (hinN _ fun z hz => List.mem_of_mem_take hz)
        rw [rsOf_len] at hE
        have hcl : (col (rsOf us) c.toNat).length = us.length := by unfold col; rw [List.length_map, rsOf_len]
        refine ⟨_, rfl, _, rfl, _, rfl, te, _, c, _, rfl, rfl, SqT.of (S24 _ _ hte), atI_int hcm.1 (by rw [List.getElem?_map, hu] <;> rfl), q, _, _, (ts[c.toNat]).2, rfl, hq, S24 _ _ (hrow _ (mem_of_get hu)), by rw [hE.len]; exact hn1, fun z hz => ?_, fun H5 q5 S5 h5 => ?_⟩
        · rw [hcol c.toNat _ hu, hcl]
          exact hE.mem z hz
        · refine ⟨q5, _, rfl, S4.trans S5, ?_⟩
          rw [h5, hcol c.toNat _ hu, effs_snoc O.rs (hinN _ fun z hz => List.mem_of_mem_take hz) hcm.1, take_next hci]
      · rintro σ H4 ⟨q, v, rfl, S4, hq⟩
        rw [List.length_map, List.take_length] at hq
        exact ⟨_, rfl, kG H4 q ((S02.trans S3).trans S4) hq⟩
theorem ok_eop {f fe fr fo fW : Addr} {fd fde fdr fdo : FuncData} (A0 : Df K mg "effect_of_power" s_effect_of_power f fd P_effect_of_power) (d_effect : Df K mg "effect" s_effect fe fde P_effect) (d_resting : Df K mg "resting" s_resting fr fdr P_resting) (d_followed : Df K mg "followed" s_followed fo fdo P_followed)
    (G_effect : FnOk P w K mg base (L2.CX P w) 7 fe fde P_effect (spEff CM CW)) (T : Txt mg) (TC : TxC K CM) : FnOk P w K mg base (L2.CX P w) 8 f fd P_effect_of_power (spEop CM CW) := by
  have G_resting : FnOk P w K mg base CX0 1 fr fdr P_resting (spResting CM) := ok_resting d_resting T TC
  have G_followed : FnOk P w K mg base CX0 1 fo fdo P_followed spFollowed := ok_followed d_followed T
  refine A0.F.okX sc_effect_of_power (fun vs H Q E h => ?_) (fun cdv Ar outer s H vs Q E hr h => ?_)
  · obtain ⟨m, y, dy, A, us, n, rfl, _⟩ := h
    rfl
  · obtain ⟨m, y, dy, A, us, n, rfl, M, O, Dy, hz, hn, kG⟩ := h
    have tk : Takes (cxOf (L2.CX P w) P w K mg base N_effect_of_power "effect_of_power" (defScope s_effect_of_power) f cdv Ar outer s H E) (fun cls d _ H => E cls d H) := takes_of rfl rfl rfl rfl
    refine ⟨_, (pss_cons (ps_set (i := 3) sc_effect_of_power.nd rfl (Or.inl rfl) (pe_callS G_effect (hr.mono (by decide)) rfl d_effect.g d_effect.F.kp d_effect.b (fun σ => passAt tk σ) (pa_cons (pv 0) (pa_cons (pv 1) pa_nil))))
    (pss_cons (ps_set (i := 4) sc_effect_of_power.nd rfl (Or.inl rfl) (pe_call G_resting (hr.mono (by decide)) rfl d_resting.g d_resting.F.kp d_resting.b .nil pass0 (pa_cons (pv 0) pa_nil)))
    (pss_cons (ps_set (i := 5) sc_effect_of_power.nd rfl (Or.inl rfl) (pv 2))
    (pss_cons (ps_while (passes_of rfl) (pt_cmpR op_gt (pv 5) pe_int (nomark _))
      (pss_cons (ps_if (pt_truth (pe_op op_odd (pv 5) pe_int) (by intro _; rfl)) (pss_one (ps_set (i := 4) sc_effect_of_power.nd rfl (Or.inl rfl) (pe_call G_followed (hr.mono (by decide)) rfl d_followed.g d_followed.F.kp d_followed.b .nil pass0 (pa_cons (pv 4) (pa_cons (pv 3) pa_nil))))) pss_nil)
      (pss_cons (ps_set (i := 3) sc_effect_of_power.nd rfl (Or.inl rfl) (pe_call G_followed (hr.mono (by decide)) rfl d_followed.g d_followed.F.kp d_followed.b .nil pass0 (pa_cons (pv 3) (pa_cons (pv 3) pa_nil))))
      (pss_one (ps_set (i := 5) sc_effect_of_power.nd rfl (Or.inl rfl) (pe_op op_halfN (pv 5) pe_int))))))
    (pss_one (ps_ret (pv 4))))))), ?_⟩
    refine ⟨_, rfl, _, rfl, m, y, dy, A, us, rfl, M, O, Dy, hz, ?_⟩
    cases hrr : rowRes A dy with
    | some k =>
      rw [hrr] at kG
      exact kG
    | none =>
      rw [hrr] at kG
      have hin := rowRes_in hrr
      have hA := O.a0
      have hn1 := O.n1
      have hE := effs_in O.rs (ns := intsD dy) fun z hz => by
        have := hin z hz
        omega
      rw [rsOf_len] at hE
      intro H1 tp S1 htp
      refine ⟨_, rfl, m, A, us, rfl, M.same S1, hn1, fun tr htr => ?_⟩
      refine ⟨_, rfl, ?_⟩
      have S02 : Same H (upd H1 tr (HO.tup ((rng us.length).map V.int))) := S1.trans (Same.new htr)
      refine ⟨fun mm σ H2 => ∃ (pw es : List Int) (t kk : Nat) (p q : Addr), σ = [some (.ref m), some y, some (.int (n : Int)), some (.ref p), some (.ref q), some (.int (t : Int))] ∧ Same H H2 ∧ H2 p = some (.tup (pw.map V.int)) ∧ H2 q = some (.tup (es.map V.int)) ∧ InR us.length pw ∧ InR us.length es ∧ t < 2 ^ kk ∧
          powG kk t pw es = powG 63 n (effs (rsOf us) (intsD dy)) (rng us.length) ∧ mm = t,
        ⟨_, _, _, n, 63, tp, tr, rfl, S02, nk htp htr, upd_same, hE, InR.rng _, hn, rfl, rfl⟩, ?_⟩
      rintro mm σ H2 ⟨pw, es, t, kk, p, q, rfl, S2, hp, hq, ip, iq, tkk, e, rfl⟩
      refine ⟨_, rfl, _, _, rfl, rfl, _, rfl, ite2 (fun ht => ?_) (fun ht => ?_)⟩
      · have ht' : 0 < mm := by have := of_decide_eq_true ht; omega
        obtain ⟨k', rfl⟩ : ∃ k', kk = k' + 1 := by
          cases kk with
          | zero => simp at tkk; omega
          | succ k' => exact ⟨k', rfl⟩
        rw [powG_step ht'] at e
        refine ⟨fun σ' H' => ∃ m', m' < mm ∧ ∃ (pw es : List Int) (t kk : Nat) (p q : Addr), σ' = [some (.ref m), some y, some (.int (n : Int)), some (.ref p), some (.ref q), some (.int (t : Int))] ∧ Same H H' ∧ H' p = some (.tup (pw.map V.int)) ∧ H' q = some (.tup (es.map V.int)) ∧ InR us.length pw ∧ InR us.length es ∧ t < 2 ^ kk ∧
          powG kk t pw es = powG 63 n (effs (rsOf us) (intsD dy)) (rng us.length) ∧ m' = t, fun _ _ h => h, ?_⟩
        have rest : ∀ (H3 : Hp) (q3 : Addr) (es3 : List Int), Same H H3 → H3 p = some (.tup (pw.map V.int)) → H3 q3 = some (.tup (es3.map V.int)) → InR us.length es3 → es3 = (if mm % 2 = 1 then comp es pw else es) →
            (tSeq (tAsg (tCall spFollowed [] E0 (tCons (tVar 3) (tCons (tVar 3) tNil))) (gName 3)) (tAsg (tOp (fun x y H Q => ∃ n : Nat, x = .int (n : Int) ∧ y = .int 1 ∧ Q (.int ((n / 2 : Nat) : Int)) H) (tVar 5) (tC (.int 1))) (gName 5)))
              { nx := fun σ' H' => ∃ m', m' < mm ∧ ∃ (pw es : List Int) (t kk : Nat) (p q : Addr), σ' = [some (.ref m), some y, some (.int (n : Int)), some (.ref p), some (.ref q), some (.int (t : Int))] ∧ Same H H' ∧ H' p = some (.tup (pw.map V.int)) ∧ H' q = some (.tup (es.map V.int)) ∧ InR us.length pw ∧ InR us.length es ∧ t < 2 ^ kk ∧
                  powG kk t pw es = powG 63 n (effs (rsOf us) (intsD dy)) (rng us.length) ∧ m' = t, rt := Q,
                ct := fun σ' H' => ∃ m', m' < mm ∧ ∃ (pw es : List Int) (t kk : Nat) (p q : Addr), σ' = [some (.ref m), some y, some (.int (n : Int)), some (.ref p), some (.ref q), some (.int (t : Int))] ∧ Same H H' ∧ H' p = some (.tup (pw.map V.int)) ∧ H' q = some (.tup (es.map V.int)) ∧ InR us.length pw ∧ InR us.length es ∧ t < 2 ^ kk ∧
                  powG kk t pw es = powG 63 n (effs (rsOf us) (intsD dy)) (rng us.length) ∧ m' = t,
                bk := fun σ H' => (tRet (tVar 4)) { nx := fun _ H' => Q .non H', rt := Q } σ H' } [some (.ref m), some y, some (.int (n : Int)), some (.ref p), some (.ref q3), some (.int (mm : Int))] H3 := by
          intro H3 q3 es3 S3 hp3 hq3 i3 e3
          refine ⟨_, rfl, _, rfl, p, p, pw, pw, rfl, hp3, hp3, by rw [ip.len]; exact hn1, fun z hz => by rw [ip.len]; exact ip.mem z hz, fun H4 p4 S4 h4 => ?_⟩
          refine ⟨_, rfl, mm, rfl, rfl, mm / 2, by omega, comp pw pw, es3, mm / 2, k', p4, q3, rfl, S3.trans S4, h4, S4 _ _ hq3, ip.comp ip, i3, ?_, ?_, rfl⟩
          · rw [Nat.pow_succ] at tkk
            omega
          · rw [e3]
            exact e
        refine ⟨_, rfl, mm, rfl, rfl, decide (mm % 2 = 1), ?_, ?_⟩
        · show decide (mm % 2 = 1) = (((mm % 2 : Nat) : Int) != 0)
          by_cases h1 : mm % 2 = 1
          · rw [h1] <;> rfl
          · have h0 : mm % 2 = 0 := by omega
            rw [h0] <;> rfl
        · refine ite2 (fun h => ?_) (fun h => ?_)
          · have h1 : mm % 2 = 1 := of_decide_eq_true h
            refine ⟨_, rfl, _, rfl, q, p, es, pw, rfl, hq, hp, by rw [iq.len]; exact hn1, fun z hz => by rw [ip.len]; exact iq.mem z hz, fun H3 q3 S3 h3 => ?_⟩
            exact rest H3 q3 _ (S2.trans S3) (S3 _ _ hp) h3 (iq.comp ip) (by rw [if_pos h1])
          · have h1 : ¬ mm % 2 = 1 := fun q => h (decide_eq_true q)
            exact rest H2 q es S2 hp hq iq (by rw [if_neg h1])
      · have h0 : mm = 0 := by
          have : ¬ (0 : Int) < (mm : Int) := fun q => ht (decide_eq_true q)
          omega
        rw [h0, powG_zero] at e
        rw [e] at hq
        exact ⟨_, rfl, kG H2 q S2 hq⟩
end
end Lk

set_option Elab.async false
set_option linter.all false
set_option maxRecDepth 100000
set_option maxHeartbeats 4000000
namespace PySem.W
open PySem PySem.Calls PyProof.Rows
section
variable {prog : Program} {w : World} {A : Around} {E : Value → Shared → Prop} {s : Shared} {K : Frag} {h₀ : Heap} {L x C f : Addr} {m : Str → Option Value} {ox : Obj} {od : Option Obj} {b tb : Value}
/-- what != makes of an own == -/
def NeB (Q : Value → Shared → Prop) (v : Value) (s' : Shared) : Prop := ∃ c : Bool, v = .bool c ∧ Q (.bool (!c)) s'
theorem boundB {M : Model} {name : Str} {id : String} {args : List Value} {Q : Option Value → Shared → Prop} (X : K.In s.heap)
    (I : InstAt s.heap x ox C od) (hs : findIn K (.ref C) name = some (some (.builtin id))) (S : Slot "object" name id)
    (h : wpAny M A (call (.builtin id) (.ref x :: args)) (fun v => Q (some v)) E s) :
    wpAny M A (callSpecialIfBound? (.ref x) name args) Q E s := by
  simp only [callSpecialIfBound?, bindSpecialIfBound?]
  refine wpAny_holding (wpAny_bind (wpAny_bind (wpAny_bind (I.type.here ((looks_findIn X hs).here ?_)))))
  simp only [S.bind]
  refine wpAny_bind (wpAny_askSetting (wpAny_ite ?_))
  have fin : wpAny M A (call (.builtin id) ([.ref x] ++ args) >>= fun v => pure (some v)) Q E s :=
    wpAny_bind (wpAny_mono h (fun v s' h' => wpAny_pure h') fun _ _ h' => h')
  split
  · exact wpAny_bind (wpAny_pure (wpAny_pure fin))
  · exact wpAny_tryCatch (wpAny_bind (wpAny_pure (wpAny_pure fin)))
theorem ne_body {Q : Fin → Shared → Prop} (hu : A.units < cLine) (X : K.In s.heap) (I : InstAt s.heap x ox C od)
    (hq : findIn K (.ref C) "__eq__" = some (some (.ref f))) (hf : isFn K (.ref f) = true)
    (h : wpAny (model prog w) A (call (.ref f) [.ref x, b]) (fun v s' => ∃ c : Bool, v = .bool c ∧ Q (.done (.ret (.bool (!c)))) s') E s) :
    wpAny (model prog w) A (Builtin.«object.__ne__» ⟨[.ref x, b], []⟩) Q E s := by
  unfold Builtin.«object.__ne__»
  refine wpAny_bind (wpAny_of_eq (a := ((Value.ref x : Value), [b])) (by first | rfl | (simp only [slotArgs]; rfl)) ?_)
  refine wpAny_bind (wpAny_cRoomFor hu ?_)
  refine wpAny_bind (ifBound_K X I hq hf (wpAny_mono h (fun v s' hv => ?_) fun _ _ e => e))
  obtain ⟨c, rfl, q⟩ := hv
  show wpAny _ _ (do let r ← truthy (.bool c); ret (.bool (!r))) _ _ _
  exact wpAny_bind (wpAny_truthy_bool (wpAny_pure q))
theorem ne_K {Q : Value → Shared → Prop} (hu : A.units + 1 < cLine) (F : Fr h₀ L s.heap m) (X₀ : K.In h₀)
    (I : InstAt s.heap x ox C od) (hb : Looks (model prog w) s.heap (typeOf b) tb) (hn : notFirst K C tb = true)
    (hs : findIn K (.ref C) "__ne__" = some (some (.builtin "object.__ne__")))
    (ho : mroIn K C (.type "object") = some true)
    (hq : findIn K (.ref C) "__eq__" = some (some (.ref f))) (hf : isFn K (.ref f) = true)
    (h : wpAny (model prog w) A.in1 (call (.ref f) [.ref x, b]) (NeB Q) E s) :
    wpAny (model prog w) A (richCompare .NotEq (.ref x) b) Q E s := by
  have X := X₀.keeps F.keep
  have sub : Looks (model prog w) s.heap (isInstance (.ref x) (.type "object")) true := I.type.andThen (looks_mroIn X ho)
  have one : wpAny (model prog w) A (tryCompare (.ref x) (cmpInfo .NotEq).2.1 b) (fun r s' => ∃ v, r = some v ∧ Q v s') E s := by
    unfold tryCompare
    refine wpAny_bind (boundB X I hs PySem.F.cmp_object.ne (wpAny_call (codeAny_call_builtin PySem.F.cmp_object.ne.plain PySem.F.cmpEntry_ne
      (check_slot PySem.F.cmpKind_ne PySem.F.cmpSplit_ne sub (PySem.F.cmpArgs_ne _ _) (ne_body (A := A.in1) hu X I hq hf ?_)))))
    refine wpAny_mono h (fun v s' hv => ?_) fun _ _ e => e
    obtain ⟨c, rfl, q⟩ := hv
    exact ⟨c, rfl, wpAny_pure ⟨_, rfl, q⟩⟩
  unfold richCompare
  simp only [oneThing_ref]
  refine wpAny_holding (wpAny_bind (wpAny_cRoomFor (Nat.lt_of_succ_lt hu) ?_))
  refine wpAny_bind (I.type.here (wpAny_bind (hb.here ?_)))
  split
  · rename_i q
    have e : subIn K tb (.ref C) = some false := by
      rcases Bool.or_eq_true_iff.mp hn with e | e
      · rw [beq_iff_eq.mp e] at q
        simp at q
      · exact beq_iff_eq.mp e
    refine wpAny_bind ((looks_subIn X e).here ?_)
    simp only [Bool.false_eq_true, if_false]
    refine wpAny_bind (wpAny_mono one (fun r s' z => ?_) fun _ _ e => e)
    obtain ⟨v, rfl, hq⟩ := z
    exact wpAny_pure hq
  · refine wpAny_bind (wpAny_pure ?_)
    simp only [Bool.false_eq_true, if_false]
    refine wpAny_bind (wpAny_mono one (fun r s' z => ?_) fun _ _ e => e)
    obtain ⟨v, rfl, hq⟩ := z
    exact wpAny_pure hq
end
end PySem.W

set_option Elab.async false
set_option linter.all false
set_option maxRecDepth 100000
set_option maxHeartbeats 4000000
namespace Lk
open PySem L2
abbrev s_Machine___eq : Stmt := inClass (top 12) 1
abbrev N_Machine___eq : List Str := ["self", "other"]
abbrev P_Machine___eq : List Str := ["self", "other"]
theorem sc_Machine___eq : FnScope N_Machine___eq P_Machine___eq (defScope s_Machine___eq) := ⟨rfl, rfl, rfl, by decide +kernel, rfl, by decide +kernel, by decide +kernel⟩
/-- what the top says of the class for isinstance and == -/
structure TxE (K : PySem.W.Frag) (mg : Str → Option Value) (C fE : Addr) : Prop where
  g : mg "Machine" = some (.ref C)
  ha : PySem.W.findIn K (.ref C) "__class__" = some (some (.builtin "object.__class__"))
  hn : PySem.W.specialIn K (.builtin "object.__class__") "__get__" = some (some (.builtin "getset_descriptor.__get__"))
  htk : PySem.W.takesIn K (.builtin "object.__class__") = some true
  hm : PySem.W.mroIn K C (.type "object") = some true
  kS : PySem.W.kitOne K (.type "str") (.ref C) = some false
  kT : PySem.W.kitOne K (.type "tuple") (.ref C) = some false
  kC : PySem.W.kitOne K (.ref C) (.ref C) = some true
  sS : PySem.W.subIn K (.type "str") (.ref C) = some false
  sT : PySem.W.subIn K (.type "tuple") (.ref C) = some false
  eq : PySem.W.findIn K (.ref C) "__eq__" = some (some (.ref fE))
  isf : PySem.W.isFn K (.ref fE) = true
  ne : PySem.W.findIn K (.ref C) "__ne__" = some (some (.builtin "object.__ne__"))
/-- the right side of == -/
inductive Rt (C : Addr) (H : Hp) : V → Option (Int × List (Addr × List Int)) → Prop
  | str (z : Str) : Rt C H (.str z) none
  | tup {a : Addr} {xs : List V} (h : H a = some (.tup xs)) : Rt C H (.ref a) none
  | mach {a : Addr} {A : Int} {us : List (Addr × List Int)} (h : MachAt C H a A us) : Rt C H (.ref a) (some (A, us))
def rowsEq (A : Int) (us : List (Addr × List Int)) : Option (Int × List (Addr × List Int)) → Bool
  | none => false
  | some (B, vs) => decide (A = B) && decide (rsOf us = rsOf vs)
def spEqM (CM : Addr) : Sp := fun vs H Q _ => ∃ (m : Addr) (y : V) (A : Int) (us : List (Addr × List Int)) (o : Option (Int × List (Addr × List Int))), vs = [.ref m, y] ∧ MachAt CM H m A us ∧ Rt CM H y o ∧ Q (.bl (rowsEq A us o)) H
def rowP (r : List Int) : PyData := .tuple (r.map PyData.int)
theorem eqv_ints : ∀ a b : List Int, PyData.eqvAll (a.map PyData.int) (b.map PyData.int) = decide (a = b)
  | [], [] => rfl
  | [], _ :: _ => rfl
  | _ :: _, [] => rfl
  | x :: a, y :: b => by
    show ((x == y) && PyData.eqvAll (a.map PyData.int) (b.map PyData.int)) = _
    rw [eqv_ints a b]
    by_cases h : x = y
    · by_cases h2 : a = b
      · rw [h, h2]
        simp
      · rw [decide_eq_false h2, Bool.and_false]
        exact (decide_eq_false fun e => h2 (by injection e)).symm
    · have e : (x == y) = false := by simpa using h
      rw [e, Bool.false_and]
      exact (decide_eq_false fun e => h (by injection e)).symm
theorem eqv_rows : ∀ a b : List (List Int), PyData.eqvAll (a.map rowP) (b.map rowP) = decide (a = b)
  | [], [] => rfl
  | [], _ :: _ => rfl
  | _ :: _, [] => rfl
  | x :: a, y :: b => by
    show (PyData.eqvAll (x.map PyData.int) (y.map PyData.int) && PyData.eqvAll (a.map rowP) (b.map rowP)) = _
    rw [eqv_ints x y, eqv_rows a b]
    by_cases h : x = y
    · by_cases h2 : a = b
      · rw [h, h2]
        simp
      · rw [decide_eq_false h2, Bool.and_false]
        exact (decide_eq_false fun e => h2 (by injection e)).symm
    · rw [decide_eq_false h, Bool.false_and]
      exact (decide_eq_false fun e => h (by injection e)).symm
theorem canLay_rows : ∀ a : List (List Int), PyData.canLayAll0 (a.map rowP) = true
  | [] => rfl
  | x :: a => by
    show (PyData.canLayAll0 (x.map PyData.int) && PyData.canLayAll0 (a.map rowP)) = true
    rw [canLay_ints, canLay_rows a] <;> rfl
theorem depth_rows : ∀ a : List (List Int), PyData.depthAll (a.map rowP) ≤ 2
  | [] => by decide
  | x :: a => by
    have h := depth_rows a
    have h2 := depth_ints x
    show max (PyData.depth (rowP x)) (PyData.depthAll (a.map rowP)) ≤ 2
    have e : PyData.depth (rowP x) = PyData.depthAll (x.map PyData.int) + 1 := rfl
    omega
theorem shaped_rows (a : List (List Int)) : SeqAt.shaped (.tuple (a.map rowP)) = true := by
  have h1 : PyData.canLay0 (.tuple (a.map rowP)) = true := canLay_rows a
  have h2 : PyData.depth (.tuple (a.map rowP)) = PyData.depthAll (a.map rowP) + 1 := rfl
  have h3 := depth_rows a
  unfold SeqAt.shaped
  rw [h1, Bool.true_and]
  exact decide_eq_true (by omega)
theorem dp_rows {K : PySem.W.Frag} {H : Hp} : ∀ {us : List (Addr × List Int)}, (∀ u ∈ us, H u.1 = some (.tup (u.2.map V.int))) → DpAll K H (us.map fun u => V.ref u.1) ((rsOf us).map rowP)
  | [], _ => .nil
  | u :: us, h => .cons (.tup (SqT.of (h u List.mem_cons_self)) (dpAll_ints _)) (dp_rows fun v hv => h v (List.mem_cons_of_mem _ hv))
section
variable {P : Program} {w : World} {K : PySem.W.Frag} {mg : Str → Option Value} {base : Heap} {CM fE : Addr}
theorem ok_eq {f : Addr} {fd : FuncData} (F : Fun K "__eq__" "Machine.__eq__" s_Machine___eq f fd) (T : Txt mg) (TC : TxC K CM) (TE : TxE K mg CM fE) : FnOk P w K mg base CX0 1 f fd P_Machine___eq (spEqM CM) := by
  refine F.ok sc_Machine___eq (fun vs H Q E h => ?_) (fun cdv Ar outer s H vs Q E hr h => ?_)
  · obtain ⟨m, y, A, us, o, rfl, _⟩ := h
    rfl
  · obtain ⟨m, y, A, us, o, rfl, M, R, k⟩ := h
    have hu : Ar.units + 3 + 64 < cLine := by have := hr.un; simp only [Around.deeper] at this; omega
    refine ⟨_, (pss_one (ps_ret (pe_and (pe_callB call_isi (by rfl) T.isinstance PyProof.Rows.boot_isinstance (pa_cons (pv 1) (pa_cons (pe_glob (v := .ref CM) (by rfl) TE.g rfl) pa_nil)))
      (pe_and (pe_cmpR op_eq (pe_fld (pv 0) rfl) (pe_fld (pv 1) rfl) (nomark _)) (pe_one (pe_cmpR (op_eqD hu) (pe_fld (pv 0) rfl) (pe_fld (pv 1) rfl) (nomark _))))))), ?_⟩
    cases R with
    | str z => exact ⟨_, rfl, _, _, _, _, false, rfl, .own _, .base (.str z), TE.kS, false, rfl, iteF k⟩
    | tup h => exact ⟨_, rfl, _, _, _, _, false, rfl, .own _, .base (.tup h), TE.kT, false, rfl, iteF k⟩
    | @mach b B vs h =>
      obtain ⟨dx, t, h1, h2, h3⟩ := M
      obtain ⟨dx', t', h1', h2', h3'⟩ := h
      refine ⟨_, rfl, _, _, _, _, true, rfl, .own _, .base (.ins h1' TC.cl TE.ha TE.hn TE.htk TE.hm), TE.kC, true, rfl, iteT ?_⟩
      refine ⟨_, rfl, m, CM, dx, _, _, rfl, h1, TC.cl, TC.n1, fld_c _ _ _, _, rfl, b, CM, dx', _, _, rfl, h1', TC.cl, TC.n1, fld_c _ _ _, rfl, _, rfl, ?_⟩
      have hk : Q (.bl (decide (A = B) && decide (rsOf us = rsOf vs))) H := k
      by_cases hAB : A = B
      · rw [decide_eq_true hAB, Bool.true_and] at hk
        rw [decide_eq_true (show V.int A = V.int B by rw [hAB])]
        refine iteT ⟨_, rfl, m, CM, dx, _, _, rfl, h1, TC.cl, TC.n3, fld_s _ _ _, _, rfl, b, CM, dx', _, _, rfl, h1', TC.cl, TC.n3, fld_s _ _ _, _, _, Dp.tup (SqT.of h2) (dp_rows h3), Dp.tup (SqT.of h2') (dp_rows h3'), shaped_rows _, shaped_rows _, ?_⟩
        rw [show PyData.eqv (.tuple ((rsOf us).map rowP)) (.tuple ((rsOf vs).map rowP)) = PyData.eqvAll ((rsOf us).map rowP) ((rsOf vs).map rowP) from rfl, eqv_rows]
        exact hk
      · rw [decide_eq_false hAB, Bool.false_and] at hk
        rw [decide_eq_false (show ¬ V.int A = V.int B from fun e => hAB (by injection e))]
        exact iteF hk
/-! ### == and != of machines, as operators -/
def rMq (CM : Addr) (neg : Bool) : R2 := fun x y H Q => ∃ (m : Addr) (A : Int) (us : List (Addr × List Int)) (o : Option (Int × List (Addr × List Int))), x = .ref m ∧ MachAt CM H m A us ∧ Rt CM H y o ∧ Q (.bl (if neg then !(rowsEq A us o) else rowsEq A us o)) H
theorem rt_type {X : Cx} {pins : List (Addr × Obj)} {σ : St} {H : Hp} {s : Shared} {y : V} {v : Value} {o : Option (Int × List (Addr × List Int))} (I : Inv X pins σ H s) (r : RelV y v) (R : Rt CM H y o) (TE : TxE X.K X.mg CM fE) :
    ∃ tb, PySem.W.Looks (model X.prog X.w) s.heap (typeOf v) tb ∧ PySem.W.notFirst X.K CM tb = true := by
  cases R with
  | str z =>
    obtain ⟨t, rfl⟩ := (show ∃ t, v = Value.str z t from r)
    exact ⟨.type "str", .now, by unfold PySem.W.notFirst; rw [TE.sS] <;> rfl⟩
  | @tup a xs h =>
    cases (show v = Value.ref a from r)
    obtain ⟨_, _, _, ob, h1, h2, _⟩ := (show ObjOk X.prog X.w H s.heap a (.tup xs) from I.hok a _ h)
    refine ⟨.type "tuple", fun A Q E s k q => wpAny_typeOf_ref (k _ _ h1) (by rw [h2]; exact q), by unfold PySem.W.notFirst; rw [TE.sT] <;> rfl⟩
  | @mach a A us h =>
    cases (show v = Value.ref a from r)
    obtain ⟨dx, t, h1, _⟩ := h
    obtain ⟨mA, J, _⟩ := ins_get I.hok h1
    obtain ⟨od, J, _⟩ := J.look
    exact ⟨.ref CM, J.type, by simp [PySem.W.notFirst]⟩
section
variable {X : Cx} {f : Addr} {fd : FuncData} {ps : List Str}
theorem run_eq {A : Around} {pins : List (Addr × Obj)} {σ : St} {H : Hp} {s : Shared} {m : Addr} {y : V} {v : Value} {M : Int} {us : List (Addr × List Int)} {o : Option (Int × List (Addr × List Int))} {Q : VK} (F : FnOk X.prog X.w X.K X.mg X.base CX0 1 fE fd P_Machine___eq (spEqM CM)) (hb : Binds X.K fd P_Machine___eq [])
    (hr : Room 1 A) (hfr : A.frames = X.A.frames) (I : Inv X pins σ H s) (r : RelV y v) (MA : MachAt CM H m M us) (R : Rt CM H y o) (q : Q (.bl (rowsEq M us o)) H) :
    wpAny (model X.prog X.w) A (call (.ref fE) [.ref m, v]) (fun u s' => u = .bool (rowsEq M us o) ∧ ∃ H', Inv X pins σ H' s' ∧ Q (.bl (rowsEq M us o)) H') X.xe s := by
  have hsp : spEqM CM [.ref m, y] H (fun z H' => z = .bl (rowsEq M us o) ∧ Q (.bl (rowsEq M us o)) H') (fun _ _ _ => False) := ⟨m, y, M, us, o, rfl, MA, R, rfl, q⟩
  have e0 : Env0 X.prog X.w X.K X.mg X.base A X.stack s H := by
    have e := I.env0
    exact ⟨by rw [hfr]; exact e.frames, e.mod, e.bs, e.bsz, e.funs, e.frf, e.hok, e.bare⟩
  have r2 : Vals [V.ref m, y] [Value.ref m, v] := .cons rfl (.cons r .nil)
  refine wpAny_call (codeAny_mono (F.run A X.stack s H ⟨[.ref m, v], []⟩ [.ref m, v] [.ref m, y] _ _ hr e0 (by
    have := hb s [.ref m, v] I.kIn (by rfl)
    simpa using this) r2 hsp) fun r s' hq => ?_)
  cases r with
  | error e => exact False.elim hq
  | ok fl =>
    cases fl with
    | ret u =>
      obtain ⟨z, H', I', rz, ez, ex⟩ := I.after hq
      subst ez
      cases rz
      exact ⟨rfl, H', I', ex⟩
    | next => exact False.elim hq
    | brk => exact False.elim hq
    | cont => exact False.elim hq
theorem op_eqM (F : FnOk X.prog X.w X.K X.mg X.base CX0 1 fE fd P_Machine___eq (spEqM CM)) (hb : Binds X.K fd P_Machine___eq []) (TE : TxE X.K X.mg CM fE) (hr : Room 1 X.A) : OpR X (compareOp .Eq) (rMq CM false) := by
  intro pins s σ H x y v u Q I rx ry h
  obtain ⟨m, A, us, o, rfl, M, R, q⟩ := h
  cases (show v = Value.ref m from rx)
  obtain ⟨tb, ht, hn⟩ := rt_type I ry R TE
  obtain ⟨dx, t, h1, _⟩ := id M
  obtain ⟨mA, J, _⟩ := ins_get I.hok h1
  obtain ⟨od, J, _⟩ := J.look
  obtain ⟨mm, hF⟩ := I.fr
  refine PySem.W.cmp_ofEq (PySem.W.cmp_K (op := .Eq) (tb := tb) hr.units0 hF I.ok.mod.kin J ht hn TE.eq TE.isf ?_)
  refine wpAny_mono (run_eq F hb hr rfl I ry M R q) (fun u s' hu => ?_) fun _ _ z => z
  obtain ⟨rfl, H', I', q'⟩ := hu
  exact ⟨.bl _, H', I', rfl, q'⟩
theorem op_neM (F : FnOk X.prog X.w X.K X.mg X.base CX0 1 fE fd P_Machine___eq (spEqM CM)) (hb : Binds X.K fd P_Machine___eq []) (TE : TxE X.K X.mg CM fE) (hr : Room 2 X.A) : OpR X (compareOp .NotEq) (rMq CM true) := by
  intro pins s σ H x y v u Q I rx ry h
  obtain ⟨m, A, us, o, rfl, M, R, q⟩ := h
  cases (show v = Value.ref m from rx)
  obtain ⟨tb, ht, hn⟩ := rt_type I ry R TE
  obtain ⟨dx, t, h1, _⟩ := id M
  obtain ⟨mA, J, _⟩ := ins_get I.hok h1
  obtain ⟨od, J, _⟩ := J.look
  obtain ⟨mm, hF⟩ := I.fr
  have hu := hr.un
  have hr1 : Room 1 X.A.in1 := ⟨hr.hd, by have := hr.dp; show X.A.depth + 3 * 1 + 5 < _; omega, by show X.A.units + 1 + 16 * 1 + 200 < cLine; omega⟩
  refine PySem.W.cmp_ofNotEq (PySem.W.ne_K (tb := tb) (by omega) hF I.ok.mod.kin J ht hn TE.ne TE.hm TE.eq TE.isf ?_)
  refine wpAny_mono (run_eq (Q := fun z H' => Q (.bl (!(rowsEq A us o))) H') F hb hr1 rfl I ry M R q) (fun u s' hu => ?_) fun _ _ z => z
  obtain ⟨rfl, H', I', q'⟩ := hu
  exact ⟨_, rfl, .bl _, H', I', rfl, q'⟩
end
end
end Lk

set_option Elab.async false
set_option linter.all false
set_option maxRecDepth 100000
set_option maxHeartbeats 4000000
namespace Lk
open PySem L2
/-! ### what a machine is made of -/
theorem dvAll_ints {H : Hp} : ∀ ns : List Int, DvAll H (ns.map V.int) (ns.map PyData.int)
  | [] => .nil
  | _ :: ns => .cons (.int _) (dvAll_ints ns)
def lstP (r : List Int) : PyData := .list (r.map PyData.int)
theorem dv_rowsL {H : Hp} : ∀ {ts : List (Addr × List Int)}, (∀ t ∈ ts, H t.1 = some (.lst (t.2.map V.int))) → DvAll H (ts.map fun t => V.ref t.1) ((rsOf ts).map lstP)
  | [], _ => .nil
  | t :: ts, h => .cons (.lst (h t List.mem_cons_self) (dvAll_ints _)) (dv_rowsL fun u hu => h u (List.mem_cons_of_mem _ hu))
theorem dv_rowsT {H : Hp} : ∀ {ts : List (Addr × List Int)}, (∀ t ∈ ts, H t.1 = some (.tup (t.2.map V.int))) → DvAll H (ts.map fun t => V.ref t.1) ((rsOf ts).map rowP)
  | [], _ => .nil
  | t :: ts, h => .cons (.tup (h t List.mem_cons_self) (dvAll_ints _)) (dv_rowsT fun u hu => h u (List.mem_cons_of_mem _ hu))
theorem isB_ints {n : Int} : ∀ {r : List Int}, (∀ z ∈ r, 0 ≤ z ∧ z < n) → (r.map PyData.int).all (isB n) = true
  | [], _ => rfl
  | z :: r, h => by
    obtain ⟨h0, h1⟩ := h z List.mem_cons_self
    have e : isB n (.int z) = true := by
      show (decide (0 ≤ z) && decide (z < n)) = true
      rw [decide_eq_true h0, decide_eq_true h1] <;> rfl
    rw [List.map_cons, List.all_cons, e, isB_ints fun y hy => h y (List.mem_cons_of_mem _ hy)] <;> rfl
theorem intD_ints : ∀ r : List Int, (r.map PyData.int).map intD = r
  | [] => rfl
  | z :: r => by
    rw [List.map_cons, List.map_cons, intD_ints r] <;> rfl
theorem isE_lst {A : Nat} {n : Int} {r : List Int} (h : r.length = A ∧ ∀ z ∈ r, 0 ≤ z ∧ z < n) : isE A n (lstP r) = true := by
  show (true && (decide (((r.map PyData.int).length : Int) = A) && (r.map PyData.int).all (isB n))) = true
  rw [isB_ints h.2, List.length_map, h.1]
  simp
theorem isE_tup {A : Nat} {n : Int} {r : List Int} (h : r.length = A ∧ ∀ z ∈ r, 0 ≤ z ∧ z < n) : isE A n (rowP r) = true := by
  show (true && (decide (((r.map PyData.int).length : Int) = A) && (r.map PyData.int).all (isB n))) = true
  rw [isB_ints h.2, List.length_map, h.1]
  simp
theorem badAt_all {A n : Int} : ∀ {ds : List PyData} {i : Nat}, (∀ e ∈ ds, isE A n e = true) → badAt A n ds i = none
  | [], _, _ => rfl
  | d :: ds, i, h => by
    rw [badAt_cons, if_pos (h d List.mem_cons_self)]
    exact badAt_all fun e he => h e (List.mem_cons_of_mem _ he)
theorem stepsRes_ok {A : Int} {d : PyData} (h1 : isS d = true) (h2 : itemsD d ≠ []) (h3 : ∀ e ∈ itemsD d, isE A ((itemsD d).length : Int) e = true) : stepsRes A d = none := by
  unfold stepsRes
  rw [if_neg (fun q => q.elim (fun e => by rw [h1] at e; cases e) h2), badAt_all h3] <;> rfl
/-- rows, each as a list or a tuple -/
theorem stepsRes_rows {A : Nat} {rs : List (List Int)} {d : PyData} {g : List Int → PyData} (h1 : isS d = true) (h2 : itemsD d = rs.map g) (hg : ∀ (n : Int) r, r.length = A ∧ (∀ z ∈ r, 0 ≤ z ∧ z < n) → isE A n (g r) = true) (x : Rs A rs) : stepsRes A d = none := by
  refine stepsRes_ok h1 (fun e => ?_) fun e he => ?_
  · rw [h2] at e
    have := x.pos
    rw [List.map_eq_nil_iff.mp e] at this
    exact absurd this (by decide)
  · rw [h2] at he ⊢
    obtain ⟨r, hr, rfl⟩ := List.mem_map.mp he
    rw [List.length_map]
    exact hg _ r (x.row r hr)
/-- what Machine(..) makes: the number of the refusal -/
def makeRes (dc ds : PyData) : Option Int := if badC dc = true then some 0 else stepsRes (intD dc) ds
theorem make_any {CM CE : Addr} {H1 : Hp} {x y : V} {dc ds : PyData} {Q : Addr → Hp → Prop} {E : XK} (Dx : Dv H1 x dc) (Dy : Dv H1 y ds) (n1 : (itemsD ds).length ≤ 1000) (n2 : ∀ e ∈ itemsD ds, (itemsD e).length ≤ 1000)
    (h : match makeRes dc ds with
      | some k => ∀ H' q, Same H1 H' → H' q = none → E (.ref CE) (some q) (upd H' q (.xd [(("at" : Str), .int k)]))
      | none => ∀ H' m us, Same H1 H' → H1 m = none → MachAt CM H' m (intD dc) us → rsOf us = (itemsD ds).map rowD → Q m H') :
    ∀ x0 dx, H1 x0 = none → H1 dx = none → dx ≠ x0 → spInit CM CE (.ref x0 :: ([x, y] ++ [])) (upd (upd H1 dx (.own x0)) x0 (.ins CM dx [])) (fun v H2 => v = .non ∧ Q x0 H2) E := by
  intro x0 dx h0 hd hne
  have hx0 : upd H1 dx (.own x0) x0 = none := by rw [upd_ne (Ne.symm hne)]; exact h0
  have S1 : Same H1 (upd (upd H1 dx (.own x0)) x0 (.ins CM dx [])) := (Same.new hd).trans (Same.new hx0)
  refine ⟨x0, dx, x, y, dc, ds, rfl, upd_same, Dx.same S1, Dy.same S1, n1, n2, fun hb => ?_, fun hb A hA => ?_⟩
  · unfold makeRes at h
    rw [if_pos hb] at h
    exact fun H' d S' hd' => h H' d (S1.trans S') hd'
  · subst hA
    unfold makeRes at h
    rw [if_neg (by rw [hb]; decide)] at h
    have eA : intD (.int A) = A := rfl
    rw [eA] at h
    cases e : stepsRes A ds with
    | some k =>
      rw [e] at h
      exact fun H' d S' hd' => h H' d (S1.trans S') hd'
    | none =>
      rw [e] at h
      refine fun H' us kp M eR => ⟨rfl, h H' x0 us (fun a o ha => kp.get (fun q => ?_) (S1 a o ha)) h0 M eR⟩
      rw [q, h0] at ha
      cases ha
theorem pass_never {P : Program} {w : World} {X : Cx} : Passes (L2.CX P w) X E0 := fun _ _ _ _ _ _ _ ⟨_, _, _, _, _, _, _, _, _, _, _, _, he⟩ => he.elim
theorem rowD_lst (r : List Int) : rowD (lstP r) = r := intD_ints r
theorem rowD_tup (r : List Int) : rowD (rowP r) = r := intD_ints r
theorem map_rowD {g : List Int → PyData} (hg : ∀ r, rowD (g r) = r) : ∀ rs : List (List Int), (rs.map g).map rowD = rs
  | [] => rfl
  | r :: rs => by rw [List.map_cons, List.map_cons, hg, map_rowD hg rs]
/-! ### beside -/
/-- the rows of two machines side by side; rs: the rows of the first so far -/
def bR (rs2 : List (List Int)) (e f : List Int) : List Int := List.zipWith (fun s t => s * (rs2.length : Int) + t) e f
def bG' (rs2 rs : List (List Int)) : List (List Int) := rs.flatMap fun e => rs2.map (bR rs2 e)
def bG (rs1 rs2 : List (List Int)) : List (List Int) := bG' rs2 rs1
abbrev s_beside : Stmt := top 23
abbrev N_beside : List Str := ["one", "other", "steps", "entry", "beyond", "state", "second"]
abbrev P_beside : List Str := ["one", "other"]
theorem sc_beside : FnScope N_beside P_beside (defScope s_beside) := ⟨rfl, rfl, rfl, by decide +kernel, rfl, by decide +kernel, by decide +kernel⟩
theorem Rs.beside {A : Nat} {rs1 rs2 : List (List Int)} (x : Rs A rs1) (y : Rs A rs2) : (bG rs1 rs2).length = rs1.length * rs2.length ∧ Rs A (bG rs1 rs2) := by
  have hl : (bG rs1 rs2).length = rs1.length * rs2.length := by
    unfold bG bG'
    rw [List.length_flatMap]
    simp only [List.length_map]
    rw [List.map_const', List.sum_replicate_nat]
  refine ⟨hl, by rw [hl]; exact Nat.mul_pos x.pos y.pos, fun r hr => ?_⟩
  obtain ⟨e, he, hr⟩ := List.mem_flatMap.mp hr
  obtain ⟨f, hf, rfl⟩ := List.mem_map.mp hr
  obtain ⟨e1, e2⟩ := x.row e he
  obtain ⟨f1, f2⟩ := y.row f hf
  unfold bR
  refine ⟨by rw [List.length_zipWith, e1, f1, Nat.min_self], fun z hz => ?_⟩
  obtain ⟨i, hi, rfl⟩ := List.mem_iff_getElem.mp hz
  rw [List.length_zipWith] at hi
  rw [List.getElem_zipWith, hl]
  obtain ⟨a0, a1⟩ := e2 _ (List.getElem_mem (l := e) (n := i) (by omega))
  obtain ⟨b0, b1⟩ := f2 _ (List.getElem_mem (l := f) (n := i) (by omega))
  have q1 := Int.mul_nonneg a0 (Int.natCast_nonneg rs2.length)
  have q2 : (e[i] + 1) * (rs2.length : Int) ≤ (rs1.length : Int) * (rs2.length : Int) := Int.mul_le_mul_of_nonneg_right (by omega) (by omega)
  rw [Int.add_mul] at q2
  refine ⟨by omega, ?_⟩
  rw [Int.natCast_mul]
  omega
section
variable {K : PySem.W.Frag} {te : TE} {σ : St} {H1 : Hp} {D : Addr} {Qd : Hp → Prop}
/-- a comprehension over zip of two tuples of ints of one length, into slots 5 and 6 -/
theorem lcZ {i j : Nat} {a b : Addr} {xs ys : List Int} (F : Int → Int → Int) (hl : xs.length = ys.length) (hD : H1 D = none) (hn : xs.length ≤ 1000000) (ha : SqT K H1 a (xs.map V.int)) (hb : SqT K H1 b (ys.map V.int))
    (hw : ∀ x y : V, wipe (((wipe σ [i, j]).set i (some x)).set j (some y)) [i, j] = wipe σ [i, j])
    (hs : ∀ (x y : Int) H, Same H1 H → ∀ Q : VK, (∀ H4, Same H H4 → Q (.int (F x y)) H4) → te (((wipe σ [i, j]).set i (some (.int x))).set j (some (.int y))) H Q)
    (hd : ∀ H', H' D = some (.lst ((List.zipWith F xs ys).map V.int)) → Same H1 H' → Qd H') :
    ∃ W : Nat → Nat → Hp → Prop, (∃ m, W 0 m (upd H1 D (.lst []))) ∧ ∀ k m H, W k m H →
      ((RZ.ItzT K a b).stop k H ∧ Qd H) ∨ ((RZ.ItzT K a b).go k H ∧ ∃ Nx : Hp → Prop, (∀ H', Nx H' → ∃ m', m' < m ∧ W (k + 1) m' H') ∧ ∀ x H', (RZ.ItzT K a b).yld k H x H' → gTup K 2 (gCons (gName i) (gCons (gName j) gNil)) x (wipe σ [i, j]) H' fun σ2 H2 => wipe σ2 [i, j] = wipe σ [i, j] ∧ tYes σ2 H2 fun b H3 =>
        if b = true then te σ2 H3 fun y H4 => ∃ acc, H4 D = some (.lst acc) ∧ acc.length < sizeLine ∧ Nx (upd H4 D (.lst (acc ++ [y]))) else Nx H3) := by
  refine ⟨fun k m H => m = xs.length - k ∧ k ≤ xs.length ∧ Same H1 H ∧ H D = some (.lst ((List.zipWith F (xs.take k) (ys.take k)).map V.int)), ⟨xs.length, rfl, Nat.zero_le _, (KP.new (S := fun _ => False) hD).toSame, upd_same⟩, ?_⟩
  rintro k m H ⟨rfl, hk, S, hD2⟩
  have qa := sameT S ha
  have qb := sameT S hb
  by_cases hlt : k < xs.length
  · have hlt2 : k < ys.length := by omega
    have ga : (xs.map V.int)[k]? = some (V.int xs[k]) := by rw [List.getElem?_map, List.getElem?_eq_getElem hlt] <;> rfl
    have gb : (ys.map V.int)[k]? = some (V.int ys[k]) := by rw [List.getElem?_map, List.getElem?_eq_getElem hlt2] <;> rfl
    refine .inr ⟨⟨_, _, _, _, qa, qb, ga, gb⟩, fun H => Same H1 H ∧ H D = some (.lst ((List.zipWith F (xs.take (k + 1)) (ys.take (k + 1))).map V.int)), fun H' p => ⟨xs.length - (k + 1), by omega, rfl, hlt, p.1, p.2⟩, ?_⟩
    rintro v H' ⟨T, x, y, rfl, hT, rfl, f1, f2⟩
    have ex := f1 _ qa
    rw [ga] at ex
    obtain rfl := Option.some.inj ex
    have ey := f2 _ qb
    rw [gb] at ey
    obtain rfl := Option.some.inj ey
    have ST : Same H (upd H T (.tup [V.int xs[k], V.int ys[k]])) := Same.new hT
    refine ⟨T, _, rfl, SqT.of upd_same, rfl, _, _, rfl, _, _, rfl, rfl, hw _ _, iteT (B := Same H1 (upd H T (.tup [V.int xs[k], V.int ys[k]])) ∧ (upd H T (.tup [V.int xs[k], V.int ys[k]])) D = some (.lst ((List.zipWith F (xs.take (k + 1)) (ys.take (k + 1))).map V.int))) ?_⟩
    refine hs _ _ _ (S.trans ST) _ fun H4 S4 => ⟨_, S4 _ _ (ST _ _ hD2), ?_, ((KP.same (S := fun _ => False) ((S.trans ST).trans S4)).mut hD).toSame, ?_⟩
    · rw [List.length_map, List.length_zipWith, List.length_take, List.length_take]
      exact Nat.lt_of_le_of_lt (show _ ≤ 1000000 by omega) (by decide)
    · rw [upd_same, take_next (List.getElem?_eq_getElem hlt), take_next (List.getElem?_eq_getElem hlt2), List.zipWith_append (by rw [List.length_take, List.length_take, hl]), List.map_append]
      rfl
  · have e : k = xs.length := by omega
    subst e
    refine .inl ⟨⟨_, _, qa, qb, .inl (by rw [List.length_map]; exact Nat.le_refl _)⟩, hd H ?_ S⟩
    rw [List.take_length, hl, List.take_length] at hD2
    exact hD2
end
section
variable {P : Program} {w : World} {K : PySem.W.Frag} {mg : Str → Option Value} {base : Heap} {CM CR CE : Addr}
def spBeside (CM CR : Addr) : Sp := fun vs H Q E => ∃ (m1 m2 : Addr) (A B : Int) (us ws : List (Addr × List Int)), vs = [.ref m1, .ref m2] ∧ MachAt CM H m1 A us ∧ MOk A us ∧ MachAt CM H m2 B ws ∧ MOk B ws ∧ us.length * ws.length ≤ 1000 ∧
  (A ≠ B → ∀ H' q, Same H H' → H' q = none → E (.ref CR) (some q) (upd H' q (.xd [(("at" : Str), .int 0)]))) ∧
  (A = B → ∀ H' m xs, Same H H' → H m = none → MachAt CM H' m A xs → rsOf xs = bG (rsOf us) (rsOf ws) → Q (.ref m) H')
theorem ok_beside {f fI fR : Addr} {fd fdI : FuncData} (A0 : Df K mg "beside" s_beside f fd P_beside) (MK : Mk K CM fI) (gM : mg "Machine" = some (.ref CM)) (bI : Binds K fdI P_Machine___init []) (GI : FnOk P w K mg base (L2.CX P w) 7 fI fdI P_Machine___init (spInit CM CE))
    (T : Txt mg) (TC : TxC K CM) (TE : PySem.ErrX.ErrTxt K mg "Refused" "Refused.__init__" CR fR) : FnOk P w K mg base (L2.CX P w) 9 f fd P_beside (spBeside CM CR) := by
  refine A0.F.okX sc_beside (fun vs H Q E h => ?_) (fun cdv Ar outer s H vs Q E hr h => ?_)
  · obtain ⟨m1, m2, A, B, us, ws, rfl, _⟩ := h
    rfl
  · obtain ⟨m1, m2, A, B, us, ws, rfl, M1, O1, M2, O2, hz, kB, kG⟩ := h
    have tk : Takes (cxOf (L2.CX P w) P w K mg base N_beside "beside" (defScope s_beside) f cdv Ar outer s H E) (fun cls d _ H => E cls d H) := takes_of rfl rfl rfl rfl
    refine ⟨_, (pss_cons (ps_if (pt_cmpR op_ne (pe_fld (pv 0) rfl) (pe_fld (pv 1) rfl) (nomark _)) (pss_one (ps_raiseLow rfl TE hr tk (pa_cons pe_int pa_nil) (by rfl))) pss_nil)
    (pss_cons (ps_set (i := 2) sc_beside.nd rfl (Or.inl rfl) (pe_lst pa_nil))
    (pss_cons (ps_for (passes_of rfl) rfl (pi_tup (pe_fld (pv 0) rfl)) (pg_name (i := 3) sc_beside.nd rfl (Or.inl rfl))
      (pss_one (ps_for (passes_of rfl) rfl (pi_tup (pe_fld (pv 1) rfl)) (pg_name (i := 4) sc_beside.nd rfl (Or.inl rfl))
        (pss_one (ps_expr (pe_bm PySem.F.plainAttrs_list PySem.F.slot_list_append PySem.F.type_list_append mt_append (pv 2) (pa_cons (pe_lc (own := [("state", 5), ("second", 6)]) (wi := RZ.iZipA K (tCons (tVar 3) (tCons (tVar 4) tNil))) (g := gTup K 2 (gCons (gName 5) (gCons (gName 6) gNil))) (tt := tYes) (te := tOp (rI0 fun i j => .int (i + j)) (tOp (rI CMul fun i j => .int (i * j)) (tVar 5) (tFld K (tVar 1) "states")) (tVar 6)) rfl sc_beside.nd (RZ.pi_zipA (by rfl) T.zip (pa_cons (pv 3) (pa_cons (pv 4) pa_nil))) (blkOk_by (N := N_beside) (sc := defScope s_beside) (by decide +kernel)) (fun _ _ _ _ _ => (pg_tup rfl (pgs_cons (pg_name (i := 5) sc_beside.nd rfl (Or.inl rfl)) (pgs_cons (pg_name (i := 6) sc_beside.nd rfl (Or.inl rfl)) pgs_nil)))) (fun _ _ _ _ _ => pts_nil) (fun _ _ _ _ _ => (pe_op op_add (pe_op op_mul (pv 5) (pe_fld (pv 1) rfl)) (pv 6)))) pa_nil)))))))
    (pss_one (ps_ret (pe_make MK GI hr rfl gM bI .nil (pass_never (P := P) (w := w)) (pa_cons (pe_fld (pv 0) rfl) (pa_cons (pv 2) pa_nil)))))))), ?_⟩
    obtain ⟨dx1, t1, a1, a2, a3⟩ := id M1
    obtain ⟨dx2, t2, b1, b2, b3⟩ := id M2
    refine ⟨_, rfl, m1, CM, dx1, _, _, rfl, a1, TC.cl, TC.n1, fld_c _ _ _, _, rfl, m2, CM, dx2, _, _, rfl, b1, TC.cl, TC.n1, fld_c _ _ _, rfl, _, rfl, ?_⟩
    by_cases hAB : A = B
    · rw [decide_eq_true (show V.int A = V.int B by rw [hAB])]
      refine iteF ?_
      have kG' := kG hAB
      subst hAB
      refine ⟨Nat.zero_le _, fun p hp => ?_⟩
      refine ⟨_, rfl, m1, CM, dx1, _, _, rfl, (Same.new hp) _ _ a1, TC.cl, TC.n3, fld_s _ _ _, t1, rfl, ⟨_, SqT.of ((Same.new hp) _ _ a2)⟩, ?_⟩
      refine for_tup (K := K) (a := t1) (xs := us.map fun u => V.ref u.1) (fun i σ H3 => ∃ (ts : List (Addr × List Int)) (v3 v4 : Option V), σ = [some (.ref m1), some (.ref m2), some (.ref p), v3, v4, none, none] ∧ Same H H3 ∧ GridAt H3 p ts ∧ (∀ t ∈ ts, t.1 ≠ p) ∧ rsOf ts = bG' (rsOf ws) ((rsOf us).take i))
        ⟨[], none, none, rfl, Same.new hp, ⟨upd_same, fun t ht => by cases ht⟩, (fun t ht => by cases ht), by rw [List.take_zero] <;> rfl⟩ (fun i σ H3 _ ⟨_, _, _, _, S, _⟩ => SqT.of (S _ _ a2)) ?_ ?_
      · rintro i y σ H3 hi ⟨ts, v3, v4, rfl, S3, G3, N3, e3⟩
        rw [List.getElem?_map] at hi
        obtain ⟨u, hu, rfl⟩ : ∃ u, us[i]? = some u ∧ V.ref u.1 = y := by
          cases e : us[i]? with
          | none => rw [e] at hi; cases hi
          | some u => rw [e] at hi; exact ⟨u, rfl, Option.some.inj hi⟩
        have hi' : i < us.length := cases_list hu
        obtain ⟨lu, ru⟩ := O1.rs.row _ (mem_of_get (rsOf_get hu))
        refine ⟨_, rfl, m2, CM, dx2, _, _, rfl, S3 _ _ b1, TC.cl, TC.n3, fld_s _ _ _, t2, rfl, ⟨_, SqT.of (S3 _ _ b2)⟩, ?_⟩
        refine for_tup (K := K) (a := t2) (xs := ws.map fun u => V.ref u.1) (fun j σ H4 => ∃ (ts : List (Addr × List Int)) (v4 : Option V), σ = [some (.ref m1), some (.ref m2), some (.ref p), some (.ref u.1), v4, none, none] ∧ Same H H4 ∧ GridAt H4 p ts ∧ (∀ t ∈ ts, t.1 ≠ p) ∧ rsOf ts = bG' (rsOf ws) ((rsOf us).take i) ++ ((rsOf ws).take j).map (bR (rsOf ws) u.2))
          ⟨ts, v4, rfl, S3, G3, N3, by rw [List.take_zero, e3, List.map_nil, List.append_nil]⟩ (fun j σ H4 _ ⟨_, _, _, S, _⟩ => SqT.of (S _ _ b2)) ?_ ?_
        · rintro j y σ H4 hj ⟨ts4, v4, rfl, S4, G4, N4, e4⟩
          rw [List.getElem?_map] at hj
          obtain ⟨x, hx, rfl⟩ : ∃ x, ws[j]? = some x ∧ V.ref x.1 = y := by
            cases e : ws[j]? with
            | none => rw [e] at hj; cases hj
            | some x => rw [e] at hj; exact ⟨x, rfl, Option.some.inj hj⟩
          obtain ⟨lx, rx⟩ := O2.rs.row _ (mem_of_get (rsOf_get hx))
          have hA1 := O1.a1
          have hws : ws.length ≤ 1000 := O2.n1
          refine ⟨_, rfl, .inl ⟨rfl, _, SqL.of G4.top⟩, _, rfl, _, rfl, u.1, x.1, _, _, rfl, .inr ⟨SqT.of (S4 _ _ (a3 u (mem_of_get hu))), SqT.of (S4 _ _ (b3 x (mem_of_get hx))), fun D hD => ?_⟩⟩
          have nDp : D ≠ p := fun e => by rw [e, G4.top] at hD; cases hD
          have e41 : rsOf ts4 = (bG' (rsOf ws) ((rsOf us).take i) ++ ((rsOf ws).take j).map (bR (rsOf ws) u.2)) := e4
          have hlen : ts4.length < 1000000 := by
            have h1 := congrArg List.length e4
            rw [rsOf_len, List.length_append, List.length_map, List.length_take, rsOf_len] at h1
            have h2 : (bG' (rsOf ws) ((rsOf us).take i)).length = ((rsOf us).take i).length * (rsOf ws).length := by
              unfold bG'
              rw [List.length_flatMap]
              simp only [List.length_map]
              rw [List.map_const', List.sum_replicate_nat]
            rw [h2, List.length_take, rsOf_len, rsOf_len] at h1
            have h3 : min i us.length * ws.length ≤ us.length * ws.length := Nat.mul_le_mul_right _ (Nat.min_le_right _ _)
            omega
          refine lcZ (K := K) (i := 5) (j := 6) (fun s t => s * ((rsOf ws).length : Int) + t) (by rw [lu, lx]) hD (by rw [lu]; omega) (SqT.of (S4 _ _ (a3 u (mem_of_get hu)))) (SqT.of (S4 _ _ (b3 x (mem_of_get hx)))) (fun _ _ => rfl) (fun s t H5 S5 Q5 k5 => ?_) (fun H5 e5 S5 => ?_)
          · refine ⟨_, rfl, _, rfl, m2, CM, dx2, _, _, rfl, (S4.trans S5) _ _ b1, TC.cl, TC.n2, fld_n _ _ _, _, _, rfl, rfl, .inr ⟨by omega, by omega⟩, _, rfl, _, _, rfl, rfl, ?_⟩
            have := k5 H5 (Same.refl _)
            rw [rsOf_len] at this
            exact this
          · refine ⟨p, _, _, rfl, rfl, S5 _ _ G4.top, by rw [List.length_map]; exact Nat.lt_of_lt_of_le hlen (by decide), ?_⟩
            refine ⟨ts4 ++ [(D, bR (rsOf ws) u.2 x.2)], _, rfl, ((KP.same (S := fun _ => False) (S4.trans S5)).mut hp).toSame, (G4.same S5).snoc e5 nDp N4, fun t ht => ?_, ?_⟩
            · rcases List.mem_append.mp ht with h | h
              · exact N4 t h
              · rw [List.mem_singleton.mp h]
                exact nDp
            · rw [take_next (rsOf_get hx), List.map_append, ← List.append_assoc, ← e4]
              show List.map _ _ = _
              rw [List.map_append]
              rfl
        · rintro σ H4 ⟨ts4, v4, rfl, S4, G4, N4, e4⟩
          refine ⟨ts4, _, _, rfl, S4, G4, N4, ?_⟩
          rw [List.length_map, ← rsOf_len ws, List.take_length] at e4
          rw [e4, take_next (rsOf_get hu)]
          unfold bG'
          rw [List.flatMap_append, List.flatMap_singleton]
      · rintro σ H3 ⟨ts, v3, v4, rfl, S3, G3, N3, e3⟩
        rw [List.length_map, ← rsOf_len us, List.take_length] at e3
        obtain ⟨hl, hR⟩ := O1.rs.beside O2.rs
        have e3' : rsOf ts = bG (rsOf us) (rsOf ws) := e3
        refine ⟨_, rfl, m1, CM, dx1, _, _, rfl, S3 _ _ a1, TC.cl, TC.n1, fld_c _ _ _, _, rfl, ?_⟩
        have Ds : Dv H3 (.ref p) (.list ((rsOf ts).map lstP)) := .lst G3.top (dv_rowsL G3.row)
        have hlp : (rsOf ts).length ≤ 1000 := by rw [e3', hl, rsOf_len, rsOf_len]; exact hz
        refine make_any (dc := .int A) (ds := .list ((rsOf ts).map lstP)) (.int A) Ds ?_ ?_ ?_
        · show ((rsOf ts).map lstP).length ≤ 1000
          rw [List.length_map]
          exact hlp
        · intro e he
          obtain ⟨r, hr, rfl⟩ := List.mem_map.mp he
          show (r.map PyData.int).length ≤ 1000
          rw [e3'] at hr
          have hA := O1.a1
          rw [List.length_map, (hR.row r hr).1]
          omega
        · have hb : badC (.int A) = false := by
            show decide (A ≤ 0) = false
            exact decide_eq_false (by have := O1.a0; omega)
          have hA : ((A.toNat : Nat) : Int) = A := by have := O1.a0; omega
          have e : makeRes (.int A) (.list ((rsOf ts).map lstP)) = none := by
            unfold makeRes
            rw [if_neg (by rw [hb]; decide)]
            show stepsRes A _ = none
            rw [← hA]
            exact stepsRes_rows (A := A.toNat) (g := lstP) rfl rfl (fun n r h => isE_lst h) (by rw [e3']; exact hR)
          rw [e]
          refine fun H' m xs S' hm M eR => kG' H' m xs (S3.trans S') ((KP.same (S := fun _ => False) S3).free id hm) M ?_
          rw [eR]
          show ((rsOf ts).map lstP).map rowD = _
          rw [map_rowD rowD_lst, e3']
    · rw [decide_eq_false (show ¬ V.int A = V.int B from fun e => hAB (by injection e))]
      exact iteT ⟨_, rfl, fun q hq => kB hAB H q (Same.refl _) hq⟩
end
end Lk

set_option Elab.async false
set_option linter.all false
set_option maxRecDepth 100000
set_option maxHeartbeats 4000000
/-! a try of which each clause binds the exception: several of them -/
namespace Lk
open PySem PySem.Spec PyProof.Rows L2
/-- the ends of a suite behind which the slot is empty again -/
def endsAs (i : Nat) (D : Ends) : Ends := { nx := fun σ' H' => D.nx (σ'.set i none) H', rt := D.rt, bk := fun σ' H' => D.bk (σ'.set i none) H', ct := fun σ' H' => D.ct (σ'.set i none) H' }
abbrev Suit := Addr → Value → Option Addr → TS
/-- what the clauses ask of an exception of the class cls: the first that takes it gets it into slot i -/
def wAll (K : PySem.W.Frag) (i : Nat) (Wo : WX) (D : Ends) : List (Value × Suit) → WX
  | [] => Wo
  | q :: r => fun cls d σ H => ∃ b, PySem.W.exmOne K cls q.1 = some b ∧ (if b = true then ∀ a, H a = none → q.2 a cls d (endsAs i D) (σ.set i (some (.ref a))) H else wAll K i Wo D r cls d σ H)
section
variable {X : Cx} {i : Nat} {n : Str}
/-- the clauses of the text, each with what its suite does -/
inductive Clauses (X : Cx) (n : Str) : List ExceptHandler → List (Value × Suit) → Prop
  | nil : Clauses X n [] []
  | cons {x : Str} {c : Value} {ts : Suit} {b : Stmt} {bs : List Stmt} {p1 p2 : Pos} {hs : List ExceptHandler} {l : List (Value × Suit)} (nm : Names X x c)
      (su : ∀ a oe cls d pn, Zc cls d oe → (∃ vs, oe.data = .fields vs) → PSs (X.suite a ((a, oe) :: pn)) (b :: bs) (ts a cls d)) (tl : Clauses X n hs l) :
      Clauses X n (.ExceptHandler (some (.Name x p1)) (some n) (b :: bs) p2 :: hs) ((c, ts) :: l)
/-- an exception at a has been noted, and stands on the ground: sI the state it left -/
structure Ground (X : Cx) (pins : List (Addr × Obj)) (σ : L2.St) (H : Hp) (cls : Value) (d : Option Addr) (a : Addr) (B : Heap) (sI s : Shared) : Prop where
  inv : Inv X pins σ H sI
  keep : ∀ b o, sI.heap.get? b = some o → b ∉ frs X.stack → B.get? b = some o
  up : sI.heap.UpToSlots s.heap
  fl : HandSPX.FlyingZ B (X.env :: X.outer) a (Zc cls d) s.heap
  fresh : H a = none
  os : s.os = sI.os
  bare : AllBare s.gens
theorem Ground.now {pins : List (Addr × Obj)} {σ : L2.St} {H : Hp} {cls : Value} {d : Option Addr} {a : Addr} {B : Heap} {sI s : Shared} (hs : X.stack = X.env :: X.outer) (g : Ground X pins σ H cls d a B sI s) : Inv X pins σ H s :=
  g.inv.landed g.keep g.fl.1 g.up g.os g.bare
/-- it lies in none of the frames -/
theorem Ground.off {pins : List (Addr × Obj)} {σ : L2.St} {H : Hp} {cls : Value} {d : Option Addr} {a : Addr} {B : Heap} {sI s : Shared} (hf : X.env.frame = some X.env.locals) (g : Ground X pins σ H cls d a B sI s) : a ≠ X.env.locals ∧ a ∉ X.fs := by
  obtain ⟨oe, vs, he, hz, hd⟩ := g.fl.there
  have no : a ∉ frs (X.env :: X.outer) := fun m => by
    obtain ⟨_, o2, e2, k⟩ := g.fl.2.2.1.mem m
    rw [he] at e2
    exact k vs ((Option.some.inj e2) ▸ hd)
  refine ⟨fun z => no (List.mem_filterMap.mpr ⟨X.env, List.mem_cons_self, by rw [hf, z]⟩), fun m => ?_⟩
  obtain ⟨e, he2, q⟩ := List.mem_filterMap.mp m
  exact no (List.mem_filterMap.mpr ⟨e, List.mem_cons_of_mem _ he2, q⟩)
theorem ground_all {pins : List (Addr × Obj)} {σ : L2.St} {H : Hp} {cls : Value} {d : Option Addr} {a : Addr} {B : Heap} {sI s : Shared} {D : Ends} {Wo : WX} (hs : X.stack = X.env :: X.outer) (hf : X.env.frame = some X.env.locals) (hN : X.N.Nodup) (hi : X.N[i]? = some n)
    (hl : X.env.kindOf n = some .local) (tk : Takes X Wo) (ok : X.calm = true → X.A.handled = none) (g : Ground X pins σ H cls d a B sI s) : ∀ {hds : List ExceptHandler} {l : List (Value × Suit)}, Clauses X n hds l → wAll X.K i Wo D l cls d σ H →
    wpAny (model X.prog X.w) X.A (handleBy (.ref a) X.env hds) (SP X pins D) X.xe s := by
  have I3 := g.now hs
  obtain ⟨oL, oF⟩ := g.off hf
  obtain ⟨oe, vs, he, hz, hd⟩ := g.fl.there
  have lk : PySem.W.Looks (model X.prog X.w) s.heap (typeOf (.ref a)) cls := fun A Q E s k q => wpAny_typeOf_ref (k _ _ he) (by rw [hz.1]; exact q)
  intro hds l cl
  induction cl with
  | nil =>
    intro w
    obtain ⟨_, _, _, ox, ws, T, oT, tT, ex, zx, dx, h1, hr⟩ := id g.fl
    refine wpAny_handleBy_nil ?_
    unfold PySem.passOn
    refine wpAny_bind (wpAny_field ex dx h1 ?_)
    rw [if_neg (show ¬ ((Value.ref T == Value.none) = true) by simp)]
    have last : wpAny (model X.prog X.w) X.A (setFlight (.ref a) X.env.frame) (fun _ z => wpAny (model X.prog X.w) X.A (throw (.ref a) : Sem Flow) (SP X pins D) X.xe z) X.xe s := by
      rw [hf]
      exact HandSPX.setFlight_upZ g.fl fun h4 q4 up4 => wpAny_throw (tk _ _ ⟨a, B, sI, pins, σ, H, cls, d, rfl, g.inv, g.keep, g.up.trans up4, .inr (.inr (by rw [hs]; exact q4)), g.fresh, g.os, g.bare, w⟩)
    first
      | exact wpAny_bind (wpAny_pure (wpAny_bind last))
      | exact wpAny_bind last
  | @cons x c ts b bs p1 p2 hs2 l2 nm su tl ih =>
    intro w
    obtain ⟨t, ht, w⟩ := w
    refine wpAny_handleBy_cons (codeAny_handlers_test ?_) (by intro q; cases q)
    have SI := I3.suite he hd g.fresh oL oF
    have read : ∀ {Q : Value → Shared → Prop} {E : Value → Shared → Prop}, Q c s → wpAny (model X.prog X.w) (X.A.mark (some (.ref a))) (eval (.Name x p1) X.env) Q E s := fun {Q E} q => by
      obtain ⟨k1, k2, k3 | ⟨k3, k4, k5⟩⟩ := nm
      · exact ld_glob (X := X.suite a ((a, oe) :: (X.pn ++ pins))) SI k1 k3 q k2
      · exact ld_blt (X := X.suite a ((a, oe) :: (X.pn ++ pins))) SI k1 k3 k4 q k5 k2
    refine read ((PySem.W.exm_one (M := model X.prog X.w) I3.kIn lk ht).here ?_)
    cases t with
    | false => exact ih w
    | true =>
      refine codeAny_handlers_suite_as (HandSPX.lands_againZ g.fl fun h4 fl4 up4 => ?_)
      have I4 : Inv X pins σ H { s with heap := h4 } := g.inv.landed g.keep fl4.1 (g.up.trans up4) g.os g.bare
      obtain ⟨o4, vs4, he4, hz4, hd4⟩ := fl4.there
      refine store_ok (X := X.suite a ((a, o4) :: (X.pn ++ pins))) (v := .ref a) (I4.suite he4 hd4 g.fresh oL oF) hN hi (.inl hl) rfl (fun s5 I5 => ?_) (.inr hl)
      refine wpAny_mono ((su a o4 cls d (X.pn ++ pins) hz4 ⟨_, hd4⟩).run [] s5 _ H _ I5 (w a g.fresh)) (fun f s6 q6 => ?_) (fun _ _ z => False.elim z)
      have gone : ∀ {σ6 : L2.St} {H6 : Hp} {Q : Shared → Prop}, Inv (X.suite a ((a, o4) :: (X.pn ++ pins))) [] σ6 H6 s6 → (∀ s7, Inv X pins (σ6.set i none) H6 s7 → Q s7) → wpAny (model X.prog X.w) X.A (do bindName X.env n .none; unbindBehindTheSuite X.env n p2) (fun _ s7 => Q s7) X.xe s6 :=
        fun {σ6 H6 Q} I6 k => gone_ok (I6.unsuite I3.ok) hN hi hl k
      cases f with
      | ret u =>
        obtain ⟨v6, σ6, H6, I6, r6, z6⟩ := q6
        exact gone I6 fun s7 I7 => ⟨_, _, _, I7, r6, z6⟩
      | next =>
        obtain ⟨σ6, H6, I6, z6⟩ := q6
        exact gone I6 fun s7 I7 => ⟨_, _, I7, z6⟩
      | cont =>
        obtain ⟨σ6, H6, I6, z6⟩ := q6
        exact gone I6 fun s7 I7 => ⟨_, _, I7, z6⟩
      | brk =>
        obtain ⟨σ6, H6, I6, z6⟩ := q6
        exact gone I6 fun s7 I7 => ⟨_, _, I7, z6⟩
theorem ps_try_all {body : List Stmt} {h0 : ExceptHandler} {hds : List ExceptHandler} {l : List (Value × Suit)} {pos : Pos} {tb : WX → TS} {Wo : WX} (hs : X.stack = X.env :: X.outer) (hf : X.env.frame = some X.env.locals) (hN : X.N.Nodup) (hi : X.N[i]? = some n) (hl : X.env.kindOf n = some .local) (tk : Takes X Wo)
    (hb : ∀ W pn xe, Takes (X.tr pn xe) W → PassesOwn (model X.prog X.w) X.A X.env xe → PSs (X.tr pn xe) body (tb W)) (cl : Clauses X n (h0 :: hds) l) : PS X (.Try body (h0 :: hds) [] [] pos) (fun D σ H => tb (wAll X.K i Wo D l) D σ H) := by
  refine ⟨fun pins s σ H D I h => wpAny_Try_except ?_⟩
  have ok := I.ok
  refine wpAny_mono ((hb (wAll X.K i Wo D l) (X.pn ++ pins) (fun e z1 => wpAny (model X.prog X.w) X.A (noteFrame e X.env) (fun _ z2 => wpAny (model X.prog X.w) X.A (setFlight e none) (fun _ z3 => wpAny (model X.prog X.w) X.A (handleBy e X.env (h0 :: hds)) (SP X pins D) X.xe z3) X.xe z2) X.xe z1)
    (fun u z xx => ?_) PassesOwn.looking).run [] s σ H D (I.toTry _) h) (fun f z q => ?_) (fun e z he => he)
  · obtain ⟨a, B, sI, _, σ2, H2, cls, d, rfl, I2, nb, up, sky, na, os, ag, w⟩ := xx
    refine Sky.land Zc.steady (show X.A.frames = some (X.env :: X.outer) by rw [ok.frames, hs]) hf (by rw [← hs]; exact sky) fun h3 fl3 up3 => ?_
    exact ground_all (s := { z with heap := h3 }) hs hf hN hi hl tk (fun hc => ok.hd hc) ⟨I2.ofTry ok, nb, up.trans up3, fl3, na, os, ag⟩ cl w
  · cases f with
    | ret u =>
      obtain ⟨v, σ2, H2, I2, r, k⟩ := q
      exact ⟨v, σ2, H2, I2.ofTry ok, r, k⟩
    | next =>
      obtain ⟨σ2, H2, I2, k⟩ := q
      exact wpAny_execs_nil ⟨σ2, H2, I2.ofTry ok, k⟩
    | cont =>
      obtain ⟨σ2, H2, I2, k⟩ := q
      exact ⟨σ2, H2, I2.ofTry ok, k⟩
    | brk =>
      obtain ⟨σ2, H2, I2, k⟩ := q
      exact ⟨σ2, H2, I2.ofTry ok, k⟩
end
end Lk

set_option Elab.async false
set_option linter.all false
set_option maxRecDepth 100000
set_option maxHeartbeats 4000000
namespace Lk
open PySem L2
/-! ### calls by keywords alone, that may raise -/
theorem Vals.rev : ∀ {xs : List V} {us : List Value}, Vals xs us → Vals xs.reverse us.reverse
  | _, _, .nil => .nil
  | x :: xs, u :: us, .cons r t => by
    rw [List.reverse_cons, List.reverse_cons]
    exact (Vals.rev t).append (.cons r .nil)
/-- the keywords stand in the reverse order of the parameters -/
theorem kbn_rev {K : PySem.W.Frag} {x qual : Str} {st : Stmt} {f : Addr} {fd : FuncData} {ps ks : List Str} {n : Nat} (F : Fun K x qual st f fd)
    (h : ∀ (kV doc pm : Value) (an : Option Addr) (cdv ct : Value) (us ws : List Value), us.length = n → ws.length = ks.length → bindArgs (PySem.W.fnOf x qual (defArgs st) (defBody st) (defScope st) .none kV doc pm an cdv ct) ⟨us, ks.zip ws⟩ = pure (ps.zip (us ++ ws.reverse))) :
    KBn K fd ps n ks (fun us ws => us ++ ws.reverse) (fun vs zs => vs ++ zs.reverse) := by
  obtain ⟨oc, od, kV, doc, pm, an, cdv, ct, osl, rfl, lk, hcd⟩ := F.ex
  exact ⟨fun s us ws _ l1 l2 => .of_eq (h kV doc pm an cdv ct us ws l1 l2), fun r1 r2 => r1.append (Vals.rev r2)⟩
section
variable {X : Cx} {CX : CXT} {k : Nat} {f C : Addr} {fd : FuncData} {ps ks : List Str} {sp : Sp} {E : St → XK} {x : Str} {p pos : Pos} {kws : List Keyword} {tk : TA} {g : List Value → List Value → List Value} {gV : List V → List V → List V}
def tKw (sp : Sp) (gV : List V → List V → List V) (m : Nat) (E : St → XK) (tk : TA) : TE := fun σ H Q => tk σ H fun zs H2 => zs.length = m ∧ sp (gV [] zs) H2 Q (E σ)
def tMkKw (C : Addr) (sp : Sp) (gV : List V → List V → List V) (m : Nat) (E : St → XK) (tk : TA) : TE := fun σ H Q => tk σ H fun zs H2 => zs.length = m ∧ ∀ x dx, H2 x = none → H2 dx = none → dx ≠ x →
  sp (gV [.ref x] zs) (upd (upd H2 dx (.own x)) x (.ins C dx [])) (fun v H3 => v = .non ∧ Q (.ref x) H3) (E σ)
theorem pe_kw (G : FnOk X.prog X.w X.K X.mg X.base CX k f fd ps sp) (room : Room k X.A) (gx : Gl X x) (mx : X.mg x = some (.ref f)) (kp : PySem.W.keepIn X.K (.ref f) = true) (bd : KBn X.K fd ps 0 ks g gV) (out : ∀ σ, PassesAt CX X σ (E σ)) (args : PK X kws tk)
    (h1 : (backToKw pos (keywordEach kws X.env)).all (·.1.isSome) = true := by rfl) (h2 : (backToKw pos (keywordEach kws X.env)).filterMap (·.1) = ks := by rfl) (h3 : (x == ("__debug__" : Str)) = false := by decide)
    (h4 : ((backTo pos (starEach [] X.env)).any (·.1) || (backToKw pos (keywordEach kws X.env)).any (·.1.isNone)) = false := by rfl) : PE X (.Call (.Name x p) [] kws pos) (tKw sp gV ks.length E tk) := by
  refine ⟨fun pins s σ H Q I h => wpAny_Call_Name_kw (ld_glob I gx mx (PySem.W.callWith_KW0 (h₀ := X.base) I.ok.mod.kin kp h1 ?_ h4) h3)⟩
  refine thn (args.run pos pins s σ H _ I h) fun ws s2 ⟨zs, H2, I2, rz, hl, q2⟩ => ⟨I2.kIn, ?_⟩
  rw [h2]
  refine wpAny_call (codeAny_mono (G.run X.A X.stack s2 H2 ⟨[], ks.zip ws⟩ (g [] ws) (gV [] zs) Q (E σ) room I2.env0 (bd.to _ [] ws I2.kIn rfl (rz.length.symm.trans hl)) (bd.rel .nil rz) q2) fun r s3 q3 => ?_)
  match r, q3 with
  | .error e, q3 => exact out σ pins H2 s2 e s3 I2 q3
  | .ok (.ret u), q3 => exact I2.after q3
  | .ok .next, q3 => exact q3.elim
  | .ok .brk, q3 => exact q3.elim
  | .ok .cont, q3 => exact q3.elim
theorem pe_mkKw (M : Mk X.K C f) (G : FnOk X.prog X.w X.K X.mg X.base CX k f fd ps sp) (room : Room (k + 1) X.A) (gx : Gl X x) (mx : X.mg x = some (.ref C)) (bd : KBn X.K fd ps 1 ks g gV) (out : ∀ σ, PassesAt CX X σ (E σ)) (args : PK X kws tk)
    (h1 : (backToKw pos (keywordEach kws X.env)).all (·.1.isSome) = true := by rfl) (h2 : (backToKw pos (keywordEach kws X.env)).filterMap (·.1) = ks := by rfl) (h3 : (x == ("__debug__" : Str)) = false := by decide)
    (h4 : ((backTo pos (starEach [] X.env)).any (·.1) || (backToKw pos (keywordEach kws X.env)).any (·.1.isNone)) = false := by rfl) : PE X (.Call (.Name x p) [] kws pos) (tMkKw C sp gV ks.length E tk) := by
  refine ⟨fun pins s σ H Q I h => wpAny_Call_Name_kw (ld_glob I gx mx (PySem.W.callWith_KW0 (h₀ := X.base) I.ok.mod.kin M.kp h1 ?_ h4) h3)⟩
  refine thn (args.run pos pins s σ H _ I h) fun ws s2 ⟨zs, H2, I2, rz, hl, q2⟩ => ⟨I2.kIn, ?_⟩
  rw [h2]
  have q := q2 (s2.heap.objs.size + 1) s2.heap.objs.size (I2.hok.fresh (Nat.le_succ _)) (I2.hok.fresh (Nat.le_refl _)) (Nat.ne_of_lt (Nat.lt_succ_self _))
  have I3 := I2.made (C := C)
  have r3 := bd.rel (Paired.cons (show RelV (V.ref (s2.heap.objs.size + 1)) (Value.ref (s2.heap.objs.size + 1)) from rfl) .nil) rz
  refine wpAny_call (make_map (f := f) I2.kIn M.makes M.init (beq_iff_eq.mp M.fn) (codeAny_mono (G.run _ X.stack _ _ ⟨[.ref (s2.heap.objs.size + 1)], ks.zip ws⟩ _ _ _ (E σ) (room.make C [] (ks.zip ws)) (I3.env0.make C [] (ks.zip ws)) (bd.to _ [.ref (s2.heap.objs.size + 1)] ws I3.kIn rfl (rz.length.symm.trans hl)) r3 q) fun r s3 q3 => ?_))
  match r, q3 with
  | .error e, q3 => exact out σ pins _ _ e s3 I3 q3
  | .ok (.ret u), q3 =>
    obtain ⟨v, H4, I4, rv, ⟨rfl, k4⟩⟩ := I3.after q3
    exact ⟨rv, V.ref (s2.heap.objs.size + 1), H4, I4, rfl, k4⟩
  | .ok .next, q3 => exact q3.elim
  | .ok .brk, q3 => exact q3.elim
  | .ok .cont, q3 => exact q3.elim
end
abbrev s_law_refused : Stmt := top 35
abbrev N_law_refused : List Str := ["_law_commands", "_law_steps", "_law_wrong_here"]
abbrev P_law_refused : List Str := ["_law_commands", "_law_steps"]
theorem sc_law_refused : FnScope N_law_refused P_law_refused (defScope s_law_refused) := ⟨rfl, rfl, rfl, by decide +kernel, rfl, by decide +kernel, by decide +kernel⟩
abbrev s_law_power_at : Stmt := top 39
abbrev N_law_power_at : List Str := ["_law_machine_here", "_law_row_here", "_law_wrong_here"]
abbrev P_law_power_at : List Str := ["_law_machine_here", "_law_row_here"]
theorem sc_law_power_at : FnScope N_law_power_at P_law_power_at (defScope s_law_power_at) := ⟨rfl, rfl, rfl, by decide +kernel, rfl, by decide +kernel, by decide +kernel⟩
def resV : Option Int → V
  | some k => .int k
  | none => .non
def spRefused : Sp := fun vs H Q _ => ∃ (x y : V) (dc ds : PyData), vs = [x, y] ∧ Dv H x dc ∧ Dv H y ds ∧ (itemsD ds).length ≤ 1000 ∧ (∀ e ∈ itemsD ds, (itemsD e).length ≤ 1000) ∧ ∀ H', Same H H' → Q (resV (makeRes dc ds)) H'
/-- what the top says of the class Machine's making -/
structure McT (K : PySem.W.Frag) (mg : Str → Option Value) (CM fI : Addr) (fdI : FuncData) : Prop where
  mM : Mk K CM fI
  g : mg "Machine" = some (.ref CM)
  b : Binds K fdI P_Machine___init []
  k : KBn K fdI P_Machine___init 1 ["steps", "commands"] (fun us ws => us ++ ws.reverse) (fun vs zs => vs ++ zs.reverse)
section
variable {P : Program} {w : World} {K : PySem.W.Frag} {mg : Str → Option Value} {base : Heap} {CM CR CE CW : Addr}
theorem ok_refused {f fI fE : Addr} {fd fdI : FuncData} (A0 : Df K mg "_law_refused" s_law_refused f fd P_law_refused) (MC : McT K mg CM fI fdI) (GI : FnOk P w K mg base (L2.CX P w) 7 fI fdI P_Machine___init (spInit CM CE))
    (TE : PySem.ErrX.ErrTxt K mg "InvalidMachine" "InvalidMachine.__init__" CE fE) : FnOk P w K mg base CX0 9 f fd P_law_refused spRefused := by
  refine A0.F.ok sc_law_refused (fun vs H Q E h => ?_) (fun cdv Ar outer s H vs Q E hr h => ?_)
  · obtain ⟨x, y, dc, ds, rfl, _⟩ := h
    rfl
  · obtain ⟨x, y, dc, ds, rfl, Dx, Dy, n1, n2, k⟩ := h
    refine ⟨_, pss_cons (ps_try_as (i := 2) (tb := fun W => tSeq (tDrop (tMkKw CM (spInit CM CE) (fun vs zs => vs ++ zs.reverse) 2 (WE W) (tCons (tVar 1) (tCons (tVar 0) tNil)))) tNext) (ts := fun a cls d => tRet (tByLow CE a cls d (tVar 2))) (Wout := fun _ _ _ _ => False) rfl rfl sc_law_refused.nd rfl rfl ⟨rfl, by decide, Or.inl TE.gC⟩ takes0
        (fun W pn xe tk _ => pss_one (ps_expr (by exact (pe_mkKw (ks := ["steps", "commands"]) MC.mM GI hr rfl MC.g MC.k (fun σ => passAt tk σ) (by exact (pk_cons (pv 1) (pk_cons (pv 0) pk_nil)))))))
        (fun a oe cls d pn hz hf => pss_one (ps_ret (pe_byLow TE hz hf (pv 2)))))
      (pss_one (ps_ret pe_non)), ?_⟩
    refine ⟨_, rfl, _, rfl, rfl, ?_⟩
    refine make_any (CM := CM) (CE := CE) (Q := fun _ H1 => Q .non H1) Dx Dy n1 n2 ?_
    cases e : makeRes dc ds with
    | some z =>
      rw [e] at k
      exact fun H' q S' hq => ⟨true, TE.te, fun _ a ha => ⟨_, rfl, rfl, rfl, q, .int z, rfl, upd_same, k _ (S'.trans (Same.new hq))⟩, fun e => by cases e⟩
    | none =>
      rw [e] at k
      exact fun H' m us S' hm M eR => k H' S'
end
end Lk

set_option Elab.async false
set_option linter.all false
set_option maxRecDepth 100000
set_option maxHeartbeats 4000000
namespace Lk
open PySem L2
abbrev s_law_asked : Stmt := top 37
abbrev N_law_asked : List Str := ["_law_machine_here", "_law_form", "_law_state", "_law_row_here", "_law_wrong_here"]
abbrev P_law_asked : List Str := ["_law_machine_here", "_law_form", "_law_state", "_law_row_here"]
theorem sc_law_asked : FnScope N_law_asked P_law_asked (defScope s_law_asked) := ⟨rfl, rfl, rfl, by decide +kernel, rfl, by decide +kernel, by decide +kernel⟩
def spPowerAt (CM : Addr) : Sp := fun vs H Q _ => ∃ (m : Addr) (y : V) (dy : PyData) (A : Int) (us : List (Addr × List Int)), vs = [.ref m, y] ∧ MachAt CM H m A us ∧ MOk A us ∧ Dv H y dy ∧ (itemsD dy).length ≤ 1000 ∧ ∀ H', Same H H' → Q (resV ((rowRes A dy).map fun k => (k : Int))) H'
/-- what asking tells, as data -/
def askD (A : Int) (us : List (Addr × List Int)) (form : Int) (dx dy : PyData) : PyData :=
  if form = 0 then match rowRes A dy with
    | some k => .tuple [.str "row", .int k]
    | none => rowP (intsD dy)
  else if form = 1 then (if isB (us.length : Int) dx = true then match rowRes A dy with
      | some k => .tuple [.str "row", .int k]
      | none => .int (led (rsOf us) (intD dx) (intsD dy))
    else .tuple [.str "refused", .int 0])
  else match rowRes A dy with
    | some k => .tuple [.str "row", .int k]
    | none => rowP (effs (rsOf us) (intsD dy))
def spAsked (K : PySem.W.Frag) (CM : Addr) : Sp := fun vs H Q _ => ∃ (m : Addr) (form : Int) (x y : V) (dx dy : PyData) (A : Int) (us : List (Addr × List Int)), vs = [.ref m, .int form, x, y] ∧ MachAt CM H m A us ∧ MOk A us ∧ Dv H x dx ∧ Dv H y dy ∧ (itemsD dy).length ≤ 1000 ∧
  ∀ H' v, Same H H' → Dp K H' v (askD A us form dx dy) → Q v H'
abbrev kRev : List V → List V → List V := fun vs zs => vs ++ zs.reverse
section
variable {P : Program} {w : World} {K : PySem.W.Frag} {mg : Str → Option Value} {base : Heap} {CM CR CE CW : Addr}
theorem ok_power_at {f fe fW : Addr} {fd fde : FuncData} (A0 : Df K mg "_law_power_at" s_law_power_at f fd P_law_power_at) (d_eop : Df K mg "effect_of_power" s_effect_of_power fe fde P_effect_of_power) (G_eop : FnOk P w K mg base (L2.CX P w) 8 fe fde P_effect_of_power (spEop CM CW))
    (TE : PySem.ErrX.ErrTxt K mg "InvalidRow" "InvalidRow.__init__" CW fW) : FnOk P w K mg base CX0 9 f fd P_law_power_at (spPowerAt CM) := by
  refine A0.F.ok sc_law_power_at (fun vs H Q E h => ?_) (fun cdv Ar outer s H vs Q E hr h => ?_)
  · obtain ⟨m, y, dy, A, us, rfl, _⟩ := h
    rfl
  · obtain ⟨m, y, dy, A, us, rfl, M, O, Dy, hz, k⟩ := h
    refine ⟨_, pss_cons (ps_try_as (i := 2) (tb := fun W => tSeq (tDrop (tCallS (spEop CM CW) (WE W) (tCons (tVar 0) (tCons (tVar 1) (tCons (tC (.int 3)) tNil))))) tNext) (ts := fun a cls d => tRet (tByLow CW a cls d (tVar 2))) (Wout := fun _ _ _ _ => False) rfl rfl sc_law_power_at.nd rfl rfl ⟨rfl, by decide, Or.inl TE.gC⟩ takes0
        (fun W pn xe tk _ => pss_one (ps_expr (by exact (pe_callS G_eop (hr.mono (by decide)) rfl d_eop.g d_eop.F.kp d_eop.b (fun σ => passAt tk σ) (by exact (pa_cons (pv 0) (pa_cons (pv 1) (pa_cons pe_int pa_nil))))))))
        (fun a oe cls d pn hz hf => pss_one (ps_ret (pe_byLow TE hz hf (pv 2)))))
      (pss_one (ps_ret pe_non)), ?_⟩
    refine ⟨_, rfl, _, rfl, m, y, dy, A, us, 3, rfl, M, O, Dy, hz, by decide, ?_⟩
    cases e : rowRes A dy with
    | some z =>
      rw [e] at k
      exact fun H' q S' hq => ⟨true, TE.te, fun _ a ha => ⟨_, rfl, rfl, rfl, q, .int (z : Int), rfl, upd_same, k _ (S'.trans (Same.new hq))⟩, fun e => by cases e⟩
    | none =>
      rw [e] at k
      exact fun H' m S' hm => k H' S'
theorem ok_asked {f fc fe fs fW fR : Addr} {fd fdc fde fds : FuncData} (A0 : Df K mg "_law_asked" s_law_asked f fd P_law_asked) (d_checked_row : Df K mg "checked_row" s_checked_row fc fdc P_checked_row) (d_end_state : Df K mg "end_state" s_end_state fs fds P_end_state) (d_effect : Df K mg "effect" s_effect fe fde P_effect)
    (k_checked : KBn K fdc P_checked_row 0 ["value", "machine"] (fun us ws => us ++ ws.reverse) kRev) (k_end : KBn K fds P_end_state 0 ["row", "state", "machine"] (fun us ws => us ++ ws.reverse) kRev) (k_effect : KBn K fde P_effect 0 ["row", "machine"] (fun us ws => us ++ ws.reverse) kRev)
    (G_checked_row : FnOk P w K mg base (L2.CX P w) 6 fc fdc P_checked_row (spChecked CM CW)) (G_end_state : FnOk P w K mg base (L2.CX P w) 7 fs fds P_end_state (spEnd CM CR CW)) (G_effect : FnOk P w K mg base (L2.CX P w) 7 fe fde P_effect (spEff CM CW))
    (TE : PySem.ErrX.ErrTxt K mg "InvalidRow" "InvalidRow.__init__" CW fW) (TR : PySem.ErrX.ErrTxt K mg "Refused" "Refused.__init__" CR fR) (ne : PySem.W.exmOne K (.ref CR) (.ref CW) = some false) : FnOk P w K mg base CX0 8 f fd P_law_asked (spAsked K CM) := by
  refine A0.F.ok sc_law_asked (fun vs H Q E h => ?_) (fun cdv Ar outer s H vs Q E hr h => ?_)
  · obtain ⟨m, form, x, y, dx, dy, A, us, rfl, _⟩ := h
    rfl
  · obtain ⟨m, form, x, y, dx, dy, A, us, rfl, M, O, Dx, Dy, hz, k⟩ := h
    refine ⟨_, pss_one (ps_try_all (i := 4) (n := "_law_wrong_here") (tb := fun W => tSeq (tIfS (tTest (tOp rEq (tVar 1) (tC (.int 0)))) (tSeq (tRet (tKw (spChecked CM CW) kRev 2 (WE W) (tCons (tVar 3) (tCons (tVar 0) tNil)))) tNext) tNext)
          (tSeq (tRet (tIf (tTest (tOp rEq (tVar 1) (tC (.int 1)))) (tKw (spEnd CM CR CW) kRev 3 (WE W) (tCons (tVar 3) (tCons (tVar 2) (tCons (tVar 0) tNil)))) (tKw (spEff CM CW) kRev 2 (WE W) (tCons (tVar 3) (tCons (tVar 0) tNil))))) tNext))
        (Wo := fun _ _ _ _ => False) (l := [(.ref CW, fun a cls d => tSeq (tRet (tTup (tCons (tC (.str "row")) (tCons (tByLow CW a cls d (tVar 4)) tNil)))) tNext), (.ref CR, fun a cls d => tSeq (tRet (tTup (tCons (tC (.str "refused")) (tCons (tByLow CR a cls d (tVar 4)) tNil)))) tNext)]) rfl rfl sc_law_asked.nd rfl rfl takes0
        (fun W pn xe tk _ => pss_cons (ps_if (pt_cmpR op_eq (pv 1) pe_int (nomark _)) (pss_one (ps_ret (by exact (pe_kw (ks := ["value", "machine"]) G_checked_row (hr.mono (by decide)) rfl d_checked_row.g d_checked_row.F.kp k_checked (fun σ => passAt tk σ) (by exact (pk_cons (pv 3) (pk_cons (pv 0) pk_nil))))))) pss_nil)
          (pss_one (ps_ret (pe_ifExp (pt_cmpR op_eq (pv 1) pe_int (nomark _)) (by exact (pe_kw (ks := ["row", "state", "machine"]) G_end_state (hr.mono (by decide)) rfl d_end_state.g d_end_state.F.kp k_end (fun σ => passAt tk σ) (by exact (pk_cons (pv 3) (pk_cons (pv 2) (pk_cons (pv 0) pk_nil))))))
            (by exact (pe_kw (ks := ["row", "machine"]) G_effect (hr.mono (by decide)) rfl d_effect.g d_effect.F.kp k_effect (fun σ => passAt tk σ) (by exact (pk_cons (pv 3) (pk_cons (pv 0) pk_nil)))))))))
        (.cons ⟨rfl, by decide, Or.inl TE.gC⟩ (fun a oe cls d pn hz hf => pss_one (ps_ret (pe_tup (pa_cons pe_str (pa_cons (pe_byLow TE hz hf (pv 4)) pa_nil)))))
          (.cons ⟨rfl, by decide, Or.inl TR.gC⟩ (fun a oe cls d pn hz hf => pss_one (ps_ret (pe_tup (pa_cons pe_str (pa_cons (pe_byLow TR hz hf (pv 4)) pa_nil))))) .nil))), ?_⟩
    have row : ∀ (_ : PyData → Prop) (z : Nat) (H' : Hp) (q : Addr), askD A us form dx dy = .tuple [.str "row", .int (z : Int)] → Same H H' → H' q = none →
        wAll K 4 (fun _ _ _ _ => False) { nx := fun _ H' => Q .non H', rt := Q } [(.ref CW, fun a cls d => tSeq (tRet (tTup (tCons (tC (.str "row")) (tCons (tByLow CW a cls d (tVar 4)) tNil)))) tNext), (.ref CR, fun a cls d => tSeq (tRet (tTup (tCons (tC (.str "refused")) (tCons (tByLow CR a cls d (tVar 4)) tNil)))) tNext)] (.ref CW) (some q)
          [some (.ref m), some (.int form), some x, some y, none] (upd H' q (.xd [(("at" : Str), .int (z : Int))])) := fun _ z H' q e S' hq => by
      refine ⟨true, TE.te, iteT fun a ha => ⟨_, rfl, rfl, rfl, q, .int (z : Int), rfl, upd_same, by show 2 ≤ sizeLine; decide, fun p hp => k _ _ ((S'.trans (Same.new hq)).trans (Same.new hp)) ?_⟩⟩
      rw [e]
      exact .tup (SqT.of upd_same) (.cons (.str _) (.cons (.int _) .nil))
    have ref : ∀ (H' : Hp) (q : Addr), askD A us form dx dy = .tuple [.str "refused", .int 0] → Same H H' → H' q = none →
        wAll K 4 (fun _ _ _ _ => False) { nx := fun _ H' => Q .non H', rt := Q } [(.ref CW, fun a cls d => tSeq (tRet (tTup (tCons (tC (.str "row")) (tCons (tByLow CW a cls d (tVar 4)) tNil)))) tNext), (.ref CR, fun a cls d => tSeq (tRet (tTup (tCons (tC (.str "refused")) (tCons (tByLow CR a cls d (tVar 4)) tNil)))) tNext)] (.ref CR) (some q)
          [some (.ref m), some (.int form), some x, some y, none] (upd H' q (.xd [(("at" : Str), .int 0)])) := fun H' q e S' hq => by
      refine ⟨false, ne, iteF ⟨true, TR.te, iteT fun a ha => ⟨_, rfl, rfl, rfl, q, .int 0, rfl, upd_same, by show 2 ≤ sizeLine; decide, fun p hp => k _ _ ((S'.trans (Same.new hq)).trans (Same.new hp)) ?_⟩⟩⟩
      rw [e]
      exact .tup (SqT.of upd_same) (.cons (.str _) (.cons (.int _) .nil))
    refine ⟨_, rfl, rfl, _, rfl, ?_⟩
    by_cases f0 : form = 0
    · rw [decide_eq_true (show V.int form = V.int 0 by rw [f0])]
      refine iteT ⟨_, rfl, _, rfl, rfl, m, y, dy, A, us, rfl, M, Dy, hz, ?_⟩
      cases e : rowRes A dy with
      | some z => exact fun H' q S' hq => row (fun _ => True) z H' q (by unfold askD; rw [if_pos f0, e]) S' hq
      | none => exact fun H' t S' ht => k H' _ S' (by unfold askD; rw [if_pos f0, e]; exact .tup (SqT.of ht) (dpAll_ints _))
    · rw [decide_eq_false (show ¬ V.int form = V.int 0 from fun e => f0 (by injection e))]
      refine iteF ⟨_, rfl, rfl, _, rfl, ?_⟩
      by_cases f1 : form = 1
      · rw [decide_eq_true (show V.int form = V.int 1 by rw [f1])]
        refine iteT ⟨_, rfl, _, rfl, _, rfl, rfl, m, x, y, dx, dy, A, us, rfl, M, O, Dx, Dy, hz, fun hb H' q S' hq => ref H' q (by unfold askD; rw [if_neg f0, if_pos f1, if_neg (by rw [hb]; decide)]) S' hq, fun hb => ?_⟩
        cases e : rowRes A dy with
        | some z => exact fun H' q S' hq => row (fun _ => True) z H' q (by unfold askD; rw [if_neg f0, if_pos f1, if_pos hb, e]) S' hq
        | none => exact fun H' S' => k H' _ S' (by unfold askD; rw [if_neg f0, if_pos f1, if_pos hb, e]; exact .int _)
      · rw [decide_eq_false (show ¬ V.int form = V.int 1 from fun e => f1 (by injection e))]
        refine iteF ⟨_, rfl, _, rfl, rfl, m, y, dy, A, us, rfl, M, O, Dy, hz, ?_⟩
        cases e : rowRes A dy with
        | some z => exact fun H' q S' hq => row (fun _ => True) z H' q (by unfold askD; rw [if_neg f0, if_neg f1, e]) S' hq
        | none => exact fun H' t S' ht => k H' _ S' (by unfold askD; rw [if_neg f0, if_neg f1, e]; exact .tup (SqT.of ht) (dpAll_ints _))
end
end Lk

set_option Elab.async false
set_option linter.all false
set_option maxRecDepth 100000
set_option maxHeartbeats 4000000
namespace Lk
open PySem L2
theorem op_mul_str {X : Cx} : OpR X (binaryOp .Mult) (fun x y H Q => ∃ (z : Str) (n : Int), x = .str z ∧ y = .int n ∧ MulOk z n ∧ Q (.str (Txt.mul z n)) H) := by
  intro pins s σ H x y v u Q I rx ry h
  obtain ⟨z, n, rfl, rfl, ok, q⟩ := h
  obtain ⟨t, rfl⟩ := rx
  obtain ⟨t', rfl⟩ := ry
  exact SB.mul ok fun t2 k => ⟨.str _, H, I.tok _, ⟨_, rfl⟩, q⟩
theorem cut_to {xs : List V} {n : Nat} (h : n ≤ xs.length) : cutV xs none (some (n : Int)) = xs.take n := by
  have e1 : HT.sIx xs.length 0 none = 0 := rfl
  have e2 : HT.sIx xs.length xs.length (some (n : Int)) = n := by
    show (if (n : Int) < 0 then ((n : Int) + ((xs.length : Nat) : Int)).toNat else min (n : Int).toNat xs.length) = n
    rw [if_neg (by omega), Int.toNat_natCast, Nat.min_eq_left h]
  unfold cutV
  rw [e1, e2, List.drop_zero, Nat.sub_zero]
theorem cut_from {xs : List V} {n : Nat} (h : n ≤ xs.length) : cutV xs (some (n : Int)) none = xs.drop n := by
  have e1 : HT.sIx xs.length xs.length none = xs.length := rfl
  have e2 : HT.sIx xs.length 0 (some (n : Int)) = n := by
    show (if (n : Int) < 0 then ((n : Int) + ((xs.length : Nat) : Int)).toNat else min (n : Int).toNat xs.length) = n
    rw [if_neg (by omega), Int.toNat_natCast, Nat.min_eq_left h]
  unfold cutV
  rw [e1, e2, List.take_of_length_le (by rw [List.length_drop]; exact Nat.le_refl _)]
/-- one of six, of five, of three -/
theorem pick6 {a b c d e f v : V} {i : Nat} {P : V → Prop} (h : [a, b, c, d, e, f][i]? = some v) (ha : P a) (hb : P b) (hc : P c) (hd : P d) (he : P e) (hf : P f) : P v := by
  match i, h with
  | 0, h => exact (Option.some.inj h) ▸ ha
  | 1, h => exact (Option.some.inj h) ▸ hb
  | 2, h => exact (Option.some.inj h) ▸ hc
  | 3, h => exact (Option.some.inj h) ▸ hd
  | 4, h => exact (Option.some.inj h) ▸ he
  | 5, h => exact (Option.some.inj h) ▸ hf
  | n + 6, h => simp at h
theorem pick5 {a b c d e v : V} {i : Nat} {P : V → Prop} (h : [a, b, c, d, e][i]? = some v) (ha : P a) (hb : P b) (hc : P c) (hd : P d) (he : P e) : P v := by
  match i, h with
  | 0, h => exact (Option.some.inj h) ▸ ha
  | 1, h => exact (Option.some.inj h) ▸ hb
  | 2, h => exact (Option.some.inj h) ▸ hc
  | 3, h => exact (Option.some.inj h) ▸ hd
  | 4, h => exact (Option.some.inj h) ▸ he
  | n + 5, h => simp at h
theorem pick3 {a b c v : V} {i : Nat} {P : V → Prop} (h : [a, b, c][i]? = some v) (ha : P a) (hb : P b) (hc : P c) : P v := by
  match i, h with
  | 0, h => exact (Option.some.inj h) ▸ ha
  | 1, h => exact (Option.some.inj h) ▸ hb
  | 2, h => exact (Option.some.inj h) ▸ hc
  | n + 3, h => simp at h
theorem badAt_at {A n : Int} {e : PyData} (he : isE A n e = false) : ∀ {pre post : List PyData} {i : Nat}, (∀ d ∈ pre, isE A n d = true) → badAt A n (pre ++ e :: post) i = some (i + pre.length)
  | [], _, _, _ => by
    show badAt A n (e :: _) _ = _
    rw [badAt_cons, if_neg (by rw [he]; decide)]
    rfl
  | d :: pre, post, i, h => by
    show badAt A n (d :: (pre ++ e :: post)) i = _
    rw [badAt_cons, if_pos (h d List.mem_cons_self), badAt_at he fun x hx => h x (List.mem_cons_of_mem _ hx), List.length_cons]
    congr 1
    omega
/-- an entry in the middle is wrong -/
theorem stepsRes_at {A : Nat} {rs : List (List Int)} {i : Nat} {e : PyData} (x : Rs A rs) (hi : i < rs.length) (he : isE A (rs.length : Int) e = false) : stepsRes A (.list ((rs.take i).map lstP ++ e :: (rs.drop (i + 1)).map lstP)) = some (2 + (i : Int)) := by
  have hl : ((rs.take i).map lstP ++ e :: (rs.drop (i + 1)).map lstP).length = rs.length := by
    rw [List.length_append, List.length_cons, List.length_map, List.length_map, List.length_take, List.length_drop]
    omega
  unfold stepsRes
  rw [if_neg (fun q => q.elim (fun e => by cases e) fun e => by
    have e' : ((rs.take i).map lstP ++ _ :: (rs.drop (i + 1)).map lstP) = [] := e
    simp at e')]
  have e0 : itemsD (.list ((rs.take i).map lstP ++ e :: (rs.drop (i + 1)).map lstP)) = (rs.take i).map lstP ++ e :: (rs.drop (i + 1)).map lstP := rfl
  rw [e0, hl, badAt_at he (fun d hd => by
    obtain ⟨r, hr, rfl⟩ := List.mem_map.mp hd
    exact isE_lst (x.row r (List.mem_of_mem_take hr))), List.length_map, List.length_take, Nat.min_eq_left (by omega)]
  show some (2 + ((0 + i : Nat) : Int)) = _
  rw [Nat.zero_add]
theorem makeRes_row {A : Nat} {rs : List (List Int)} {i : Nat} {e : PyData} (hA : 0 < A) (x : Rs A rs) (hi : i < rs.length) (he : isE A (rs.length : Int) e = false) : makeRes (.int A) (.list ((rs.take i).map lstP ++ e :: (rs.drop (i + 1)).map lstP)) = some (2 + (i : Int)) := by
  unfold makeRes
  rw [if_neg (by
    show ¬ decide ((A : Int) ≤ 0) = true
    rw [decide_eq_false (by omega)]
    decide)]
  exact stepsRes_at x hi he
abbrev s_law_wrong : Stmt := top 36
abbrev N_law_wrong : List Str := ["_law_deal", "_law_commands", "_law_steps", "_law_form", "_law_at", "_law_row_here"]
abbrev P_law_wrong : List Str := ["_law_deal", "_law_commands", "_law_steps"]
theorem sc_law_wrong : FnScope N_law_wrong P_law_wrong (defScope s_law_wrong) := ⟨rfl, rfl, rfl, by decide +kernel, rfl, by decide +kernel, by decide +kernel⟩
def spWrong : Sp := fun vs H Q _ => ∃ (d l a : Addr) (A : Nat) (ts : List (Addr × List Int)), vs = [.ref d, .int (A : Int), .ref a] ∧ DealAt H d l ∧ GridAt H a ts ∧ ¬ dl d l a ∧ (∀ t ∈ ts, ¬ dl d l t.1) ∧ RowsOk A ts ∧ 0 < A ∧ A ≤ 5 ∧ ts.length ≤ 100 ∧
  ∀ (H' : Hp) (t : Addr) (x y : V) (dc ds : PyData) (n : Int), DealAt H' d l → SB d l H H' → H' t = some (.tup [x, y, .int n]) → Dv H' x dc → Dv H' y ds → (itemsD ds).length ≤ 1000 → (∀ e ∈ itemsD ds, (itemsD e).length ≤ 1000) → makeRes dc ds = some n → Q (.ref t) H'
theorem DvAll.set {H : Hp} {v : V} {e : PyData} (De : Dv H v e) : ∀ {xs : List V} {ds : List PyData} {i : Nat}, DvAll H xs ds → DvAll H (xs.set i v) (ds.set i e)
  | _, _, _, .nil => .nil
  | _, _, 0, .cons _ t => .cons De t
  | _, _, _ + 1, .cons h t => .cons h (DvAll.set De t)
theorem all_set_false {p : PyData → Bool} {e : PyData} : ∀ {ds : List PyData} {i : Nat}, i < ds.length → p e = false → (ds.set i e).all p = false
  | [], _, h, _ => by simp at h
  | d :: ds, 0, _, he => by
    show (p e && ds.all p) = false
    rw [he, Bool.false_and]
  | d :: ds, i + 1, h, he => by
    show (p d && (ds.set i e).all p) = false
    rw [all_set_false (Nat.lt_of_succ_lt_succ h) he, Bool.and_false]
theorem dvAll_append {H : Hp} : ∀ {xs ys : List V} {ds es : List PyData}, DvAll H xs ds → DvAll H ys es → DvAll H (xs ++ ys) (ds ++ es)
  | _, _, _, _, .nil, k => k
  | _, _, _, _, .cons h t, k => .cons h (dvAll_append t k)
theorem dv_mid {H : Hp} {ts : List (Addr × List Int)} {i : Nat} {v : V} {e : PyData} {p : Addr} (rows : ∀ t ∈ ts, H t.1 = some (.lst (t.2.map V.int))) (De : Dv H v e) (hp : H p = some (.lst ((ts.map fun t => V.ref t.1).take i ++ [v] ++ (ts.map fun t => V.ref t.1).drop (i + 1)))) :
    Dv H (.ref p) (.list (((rsOf ts).take i).map lstP ++ e :: ((rsOf ts).drop (i + 1)).map lstP)) := by
  refine .lst hp ?_
  have e1 : (rsOf ts).take i = rsOf (ts.take i) := by
    unfold rsOf
    rw [List.map_take]
  have e2 : (rsOf ts).drop (i + 1) = rsOf (ts.drop (i + 1)) := by
    unfold rsOf
    rw [List.map_drop]
  rw [e1, e2, ← List.map_take, ← List.map_drop, List.append_assoc]
  exact dvAll_append (dv_rowsL fun t ht => rows t (List.mem_of_mem_take ht)) (.cons De (dv_rowsL fun t ht => rows t (List.mem_of_mem_drop ht)))
theorem size_mid {rs : List (List Int)} {i : Nat} {e : PyData} (hi : i < rs.length) (hz : rs.length ≤ 1000) (he : (itemsD e).length ≤ 1000) (hr : ∀ r ∈ rs, r.length ≤ 1000) :
    (itemsD (.list ((rs.take i).map lstP ++ e :: (rs.drop (i + 1)).map lstP))).length ≤ 1000 ∧ ∀ q ∈ itemsD (.list ((rs.take i).map lstP ++ e :: (rs.drop (i + 1)).map lstP)), (itemsD q).length ≤ 1000 := by
  have e0 : itemsD (.list ((rs.take i).map lstP ++ e :: (rs.drop (i + 1)).map lstP)) = (rs.take i).map lstP ++ e :: (rs.drop (i + 1)).map lstP := rfl
  rw [e0]
  have hrow : ∀ r ∈ rs, (itemsD (lstP r)).length ≤ 1000 := fun r hr' => by
    show (r.map PyData.int).length ≤ 1000
    rw [List.length_map]
    exact hr r hr'
  refine ⟨?_, fun q hq => ?_⟩
  · rw [List.length_append, List.length_cons, List.length_map, List.length_map, List.length_take, List.length_drop]
    omega
  · rcases List.mem_append.mp hq with h | h
    · obtain ⟨r, hr', rfl⟩ := List.mem_map.mp h
      exact hrow r (List.mem_of_mem_take hr')
    · rcases List.mem_cons.mp h with h | h
      · rw [h]
        exact he
      · obtain ⟨r, hr', rfl⟩ := List.mem_map.mp h
        exact hrow r (List.mem_of_mem_drop hr')
section
variable {P : Program} {w : World} {K : PySem.W.Frag} {mg : Str → Option Value} {base : Heap}
theorem ok_wrong {f fa fo : Addr} {fd fda fdo : FuncData} (A0 : Df K mg "_law_wrong" s_law_wrong f fd P_law_wrong) (d_law_any : Df K mg "_law_any" s_law_any fa fda P_law_any) (d_law_of : Df K mg "_law_of" s_law_of fo fdo P_law_of) (T : Txt mg) : FnOk P w K mg base CX0 3 f fd P_law_wrong spWrong := by
  have G_law_any : FnOk P w K mg base CX0 1 fa fda P_law_any spAny := ok_any d_law_any T
  have G_law_of : FnOk P w K mg base CX0 2 fo fdo P_law_of spOf := ok_of d_law_of d_law_any T
  refine A0.F.ok sc_law_wrong (fun vs H Q E h => ?_) (fun cdv Ar outer s H vs Q E hr h => ?_)
  · obtain ⟨d, l, a, A, ts, rfl, _⟩ := h
    rfl
  · obtain ⟨d, l, a, A, ts, rfl, D, G, na, nt, R, A0', A5, hz, k⟩ := h
    refine ⟨_, (pss_cons (ps_par (i := 3) (j := 4) rfl sc_law_wrong.nd rfl rfl (by decide) rfl rfl (pa_cons (pe_call G_law_any (hr.mono (by decide)) rfl d_law_any.g d_law_any.F.kp d_law_any.b .nil pass0 (pa_cons (pv 0) (pa_cons pe_int pa_nil))) (pa_cons (pe_call G_law_any (hr.mono (by decide)) rfl d_law_any.g d_law_any.F.kp d_law_any.b .nil pass0 (pa_cons (pv 0) (pa_cons (pe_callB call_len_seq (by rfl) T.len PySem.boot_len (pa_cons (pv 2) pa_nil)) pa_nil))) pa_nil)) rfl)
    (pss_cons (ps_if (pt_cmpR op_eq (pv 3) pe_int (nomark _)) (pss_one (ps_ret (pe_tup (pa_cons (pe_call G_law_of (hr.mono (by decide)) rfl d_law_of.g d_law_of.F.kp d_law_of.b .nil pass0 (pa_cons (pv 0) (pa_cons (pe_lst (pa_cons pe_int (pa_cons (pe_un un_neg pe_int) (pa_cons pe_non (pa_cons pe_bl (pa_cons pe_str (pa_cons (pe_tup (pa_cons pe_int pa_nil)) pa_nil))))))) pa_nil))) (pa_cons (pv 2) (pa_cons pe_int pa_nil)))))) pss_nil)
    (pss_cons (ps_if (pt_cmpR op_eq (pv 3) pe_int (nomark _)) (pss_one (ps_ret (pe_tup (pa_cons (pv 1) (pa_cons (pe_call G_law_of (hr.mono (by decide)) rfl d_law_of.g d_law_of.F.kp d_law_of.b .nil pass0 (pa_cons (pv 0) (pa_cons (pe_lst (pa_cons pe_non (pa_cons pe_int (pa_cons pe_str (pa_cons (pe_lst pa_nil) (pa_cons (pe_tup pa_nil) (pa_cons pe_dnewK pa_nil))))))) pa_nil))) (pa_cons pe_int pa_nil)))))) pss_nil)
    (pss_cons (ps_set (i := 5) sc_law_wrong.nd rfl (Or.inl rfl) (pe_callTy call_list_of (by rfl) T.list (by decide +kernel) (pa_cons (pe_ix ix_list (pv 2) (pv 4) (fun _ _ => rfl)) pa_nil)))
    (pss_cons (ps_if (pt_cmpR op_eq (pv 3) pe_int (nomark _)) (pss_one (ps_ret (pe_tup (pa_cons (pv 1) (pa_cons (pe_op op_cat (pe_op op_cat (pe_slice sl_list (pv 2) po_none (po_some (pv 4))) (pe_lst (pa_cons (pe_call G_law_of (hr.mono (by decide)) rfl d_law_of.g d_law_of.F.kp d_law_of.b .nil pass0 (pa_cons (pv 0) (pa_cons (pe_lst (pa_cons (pe_op op_cat (pv 5) (pe_lst (pa_cons pe_int pa_nil))) (pa_cons (pe_slice sl_list (pv 5) (po_some pe_int) po_none) (pa_cons pe_non (pa_cons (pe_op op_mul_str pe_str (pv 1)) (pa_cons pe_int pa_nil)))))) pa_nil))) pa_nil))) (pe_slice sl_list (pv 2) (po_some (pe_op op_add (pv 4) pe_int)) po_none)) (pa_cons (pe_op op_add pe_int (pv 4)) pa_nil)))))) pss_nil)
    (pss_cons (ps_asg (pe_call G_law_of (hr.mono (by decide)) rfl d_law_of.g d_law_of.F.kp d_law_of.b .nil pass0 (pa_cons (pv 0) (pa_cons (pe_lst (pa_cons (pe_callB call_len_seq (by rfl) T.len PySem.boot_len (pa_cons (pv 2) pa_nil)) (pa_cons (pe_un un_neg pe_int) (pa_cons pe_non (pa_cons pe_bl (pa_cons pe_str (pa_cons (pe_tup (pa_cons pe_int pa_nil)) pa_nil))))))) pa_nil))) (pg_sub (pv 5) (pe_call G_law_any (hr.mono (by decide)) rfl d_law_any.g d_law_any.F.kp d_law_any.b .nil pass0 (pa_cons (pv 0) (pa_cons (pv 1) pa_nil))) set_list))
    (pss_one (ps_ret (pe_tup (pa_cons (pv 1) (pa_cons (pe_op op_cat (pe_op op_cat (pe_slice sl_list (pv 2) po_none (po_some (pv 4))) (pe_lst (pa_cons (pv 5) pa_nil))) (pe_slice sl_list (pv 2) (po_some (pe_op op_add (pv 4) pe_int)) po_none)) (pa_cons (pe_op op_add pe_int (pv 4)) pa_nil)))))))))))), ?_⟩
    have hpos := R.pos
    have dvG : ∀ H', GridAt H' a ts → Dv H' (.ref a) (.list ((rsOf ts).map lstP)) := fun H' g => .lst g.top (dv_rowsL g.row)
    have hrow : ∀ x ∈ rsOf ts, x.length ≤ 1000 := fun x hx => by
      have := (R.rs.row x hx).1
      omega
    have szG : (itemsD (.list ((rsOf ts).map lstP))).length ≤ 1000 := by
      show ((rsOf ts).map lstP).length ≤ 1000
      rw [List.length_map, rsOf_len]
      omega
    have szE : ∀ e ∈ itemsD (.list ((rsOf ts).map lstP)), (itemsD e).length ≤ 1000 := fun e he => by
      obtain ⟨x, hx, rfl⟩ := List.mem_map.mp he
      show (x.map PyData.int).length ≤ 1000
      rw [List.length_map]
      exact hrow x hx
    refine ⟨_, rfl, d, l, _, rfl, by decide, by decide, D, fun H1 r D1 S1 r0 r1 => ?_⟩
    have G1 := G.kp S1.kp na nt
    refine ⟨_, rfl, _, rfl, a, _, rfl, .inl (SqL.of G1.top), d, l, _, rfl, by rw [List.length_map]; omega, by rw [List.length_map]; omega, D1, fun H2 at_ D2 S2 a0 a1 => ⟨_, _, rfl, ?_⟩⟩
    have G2 := G1.kp S2.kp na nt
    rw [List.length_map] at a1
    refine ⟨_, rfl, rfl, _, rfl, ite2 (fun f0 => ?_) (fun f0 => ?_)⟩
    · -- the commands are wrong
      refine ⟨_, rfl, ?_⟩
      refine ⟨_, rfl, by show 1 ≤ sizeLine; decide, fun q1 h1 => ⟨by show 6 ≤ sizeLine; decide, fun q2 h2 => ?_⟩⟩
      refine ⟨d, l, q2, _, rfl, upd_same, (D2.new h1).free h2, by show 0 < 6; decide, by show 6 ≤ 1000; decide, (D2.new h1).new h2, fun H3 i v D3 S3 hi => ?_⟩
      have S23 : SB d l H2 H3 := (SB.new h1).trans ((SB.new h2).trans S3)
      have G3 := G2.kp S23.kp na nt
      have hv : ∃ dc, Dv H3 v dc ∧ badC dc = true := pick6 (P := fun v => ∃ dc, Dv H3 v dc ∧ badC dc = true) hi ⟨_, .int 0, by decide⟩ ⟨_, .int _, by decide⟩ ⟨_, .non, rfl⟩ ⟨_, .bl true, rfl⟩ ⟨_, .str _, rfl⟩ ⟨_, .tup (S3.kp.get (D2.free h1) (nk upd_same h2)) (.cons (.int 1) .nil), rfl⟩
      obtain ⟨dc, Dc, hb⟩ := hv
      refine ⟨_, rfl, by show 3 ≤ sizeLine; decide, fun t ht => ?_⟩
      refine k _ t v (.ref a) dc (.list ((rsOf ts).map lstP)) 0 (D3.new ht) (((S1.trans S2).trans S23).trans (SB.new ht)) upd_same (Dc.same (Same.new ht)) (dvG _ (G3.new ht)) szG szE ?_
      unfold makeRes
      rw [if_pos hb]
    · have g0 : r ≠ 0 := fun e => f0 (decide_eq_true (by rw [e]))
      refine ⟨_, rfl, rfl, _, rfl, ite2 (fun f1 => ?_) (fun f1 => ?_)⟩
      · -- the steps are wrong
        refine ⟨_, rfl, _, rfl, by show 0 ≤ sizeLine; decide, fun q1 h1 => ⟨by show 0 ≤ sizeLine; decide, fun q2 h2 q3 h3 => ⟨by show 6 ≤ sizeLine; decide, fun q4 h4 => ?_⟩⟩⟩
        have D23 := ((D2.new (o := HO.lst []) h1).new (o := HO.tup []) h2).new (o := HO.dK []) h3
        refine ⟨d, l, q4, _, rfl, upd_same, D23.free h4, by show 0 < 6; decide, by show 6 ≤ 1000; decide, D23.new h4, fun H3 i v D3 S3 hi => ?_⟩
        have S23 : SB d l H2 H3 := (SB.new h1).trans ((SB.new h2).trans ((SB.new h3).trans ((SB.new h4).trans S3)))
        have e1 : H3 q1 = some (.lst []) := S3.kp.get (D2.free h1) (nk (nk (nk upd_same h2) h3) h4)
        have e2 : H3 q2 = some (.tup []) := S3.kp.get ((D2.new h1).free h2) (nk (nk upd_same h3) h4)
        have e3 : H3 q3 = some (.dK []) := S3.kp.get (((D2.new (o := HO.lst []) h1).new h2).free h3) (nk upd_same h4)
        have hv : ∃ ds, Dv H3 v ds ∧ (isS ds = false ∨ itemsD ds = []) := pick6 (P := fun v => ∃ ds, Dv H3 v ds ∧ (isS ds = false ∨ itemsD ds = [])) hi ⟨_, .non, .inl rfl⟩ ⟨_, .int _, .inl rfl⟩ ⟨_, .str _, .inl rfl⟩ ⟨_, .lst e1 .nil, .inr rfl⟩ ⟨_, .tup e2 .nil, .inr rfl⟩ ⟨_, .dct e3, .inl rfl⟩
        obtain ⟨ds, Ds, hb⟩ := hv
        have hi0 : itemsD ds = [] := by
          rcases hb with h | h
          · cases ds with
            | list _ => cases h
            | tuple _ => cases h
            | none => rfl
            | bool _ => rfl
            | int _ => rfl
            | str _ => rfl
            | dict _ => rfl
          · exact h
        refine ⟨by show 3 ≤ sizeLine; decide, fun t ht => ?_⟩
        refine k _ t (.int (A : Int)) v (.int (A : Int)) ds 1 (D3.new ht) (((S1.trans S2).trans S23).trans (SB.new ht)) upd_same (.int _) (Ds.same (Same.new ht)) (by rw [hi0]; decide) (fun e he => by rw [hi0] at he; cases he) ?_
        unfold makeRes stepsRes
        rw [if_neg (by
          show ¬ decide ((A : Int) ≤ 0) = true
          rw [decide_eq_false (by omega)]
          decide), if_pos hb]
      · obtain ⟨j, rfl⟩ : ∃ j : Nat, at_ = (j : Int) := ⟨at_.toNat, by omega⟩
        have hj : j < ts.length := by omega
        have hu : ts[j]? = some ts[j] := List.getElem?_eq_getElem hj
        have hlr : (ts.map fun t => V.ref t.1).length = ts.length := List.length_map ..
        obtain ⟨lu, ru⟩ := R.row _ (mem_of_get hu)
        have c1 : cutV (ts.map fun t => V.ref t.1) none (some (j : Int)) = (ts.map fun t => V.ref t.1).take j := cut_to (by rw [hlr]; omega)
        have c2 : cutV (ts.map fun t => V.ref t.1) (some ((j : Int) + 1)) none = (ts.map fun t => V.ref t.1).drop (j + 1) := by
          rw [show (j : Int) + 1 = ((j + 1 : Nat) : Int) by omega]
          exact cut_from (by rw [hlr]; omega)
        have hcl1 : (cutV (ts.map fun t : Addr × List Int => V.ref t.1) none (some (j : Int))).length + 1 ≤ sizeLine := by
          rw [c1, List.length_take, hlr]
          exact Nat.le_trans (show min j ts.length + 1 ≤ 1000 by omega) (by decide)
        have hcl2 : ∀ v, (cutV (ts.map fun t : Addr × List Int => V.ref t.1) none (some (j : Int)) ++ [v]).length + (cutV (ts.map fun t : Addr × List Int => V.ref t.1) (some ((j : Int) + 1)) none).length ≤ sizeLine := fun v => by
          rw [c1, c2, List.length_append, List.length_take, List.length_drop, hlr]
          exact Nat.le_trans (show min j ts.length + 1 + (ts.length - (j + 1)) ≤ 1000 by omega) (by decide)
        have hmk : ∀ e, isE A (ts.length : Int) e = false → makeRes (.int (A : Int)) (.list (((rsOf ts).take j).map lstP ++ e :: ((rsOf ts).drop (j + 1)).map lstP)) = some (2 + (j : Int)) := fun e he => makeRes_row A0' R.rs (by rw [← rsOf_len] at hj; exact hj) (by rw [← rsOf_len] at he; exact he)
        have hsz : ∀ e, (itemsD e).length ≤ 1000 → _ := fun e he => size_mid (e := e) (rs := rsOf ts) (i := j) (by rw [rsOf_len]; exact hj) (by rw [rsOf_len]; omega) he hrow
        refine ⟨_, rfl, _, rfl, a, _, (j : Int), V.ref ts[j].1, rfl, rfl, SqL.of G2.top, atI_int a0 (by rw [List.getElem?_map, Int.toNat_natCast, hu] <;> rfl), _, _, rfl, .inl (SqL.of (G2.row _ (mem_of_get hu))), fun q hq => ?_⟩
        have D3 := D2.new (o := HO.lst (ts[j].2.map V.int)) hq
        have G3 := G2.new (o := HO.lst (ts[j].2.map V.int)) hq
        have S3 : SB d l H2 (upd H2 q (HO.lst (ts[j].2.map V.int))) := SB.new hq
        have nq := D2.free hq
        refine ⟨_, rfl, rfl, _, rfl, ite2 (fun f2 => ?_) (fun f2 => ?_)⟩
        · -- an entry is wrong
          refine ⟨_, rfl, _, rfl, _, rfl, (j : Int), rfl, a, _, rfl, SqL.of G3.top, fun p1 hp1 => ?_⟩
          have D4 := D3.new (o := HO.lst (cutV (ts.map fun t => V.ref t.1) none (some (j : Int)))) hp1
          have hr3 : upd (upd H2 q (HO.lst (ts[j].2.map V.int))) p1 (HO.lst (cutV (ts.map fun t => V.ref t.1) none (some (j : Int)))) q = some (.lst (ts[j].2.map V.int)) := nk upd_same hp1
          refine ⟨_, rfl, _, rfl, by show 1 ≤ sizeLine; decide, fun q1 h1 => ?_⟩
          refine ⟨q, q1, _, _, rfl, rfl, nk hr3 h1, upd_same, ?_, fun q2 h2 => ?_⟩
          · rw [List.length_map, lu]
            exact Nat.le_trans (show A + 1 ≤ 1000 by omega) (by decide)
          refine ⟨_, rfl, (1 : Int), rfl, q, _, rfl, SqL.of (nk (nk hr3 h1) h2), fun q3 h3 => ?_⟩
          refine ⟨_, rfl, _, _, rfl, rfl, PyProof.Rows.mulOk_of 16 1048576 (by decide) (by omega) (by omega) (by decide) (by decide), by show 5 ≤ sizeLine; decide, fun q4 h4 => ?_⟩
          have D5 := D4.new (o := HO.lst [V.int 0]) h1
          have D6 := D5.new (o := HO.lst (ts[j].2.map V.int ++ [V.int 0])) h2
          have D7 := D6.new (o := HO.lst (cutV (ts[j].2.map V.int) (some 1) none)) h3
          refine ⟨d, l, q4, _, rfl, upd_same, D7.free h4, by show 0 < 5; decide, by show 5 ≤ 1000; decide, D7.new h4, fun H3 i v D8 S8 hi => ?_⟩
          have S23 : SB d l H2 H3 := S3.trans ((SB.new hp1).trans ((SB.new h1).trans ((SB.new h2).trans ((SB.new h3).trans ((SB.new h4).trans S8)))))
          have G8 := G2.kp S23.kp na nt
          have kq2 : H3 q2 = some (.lst (ts[j].2.map V.int ++ [V.int 0])) := S8.kp.get (D5.free h2) (nk (nk upd_same h3) h4)
          have kq3 : H3 q3 = some (.lst (cutV (ts[j].2.map V.int) (some 1) none)) := S8.kp.get (D6.free h3) (nk upd_same h4)
          have kp1 : H3 p1 = some (.lst (cutV (ts.map fun t => V.ref t.1) none (some (j : Int)))) := S8.kp.get (D3.free hp1) (nk (nk (nk (nk upd_same h1) h2) h3) h4)
          have c3 : cutV (ts[j].2.map V.int) (some 1) none = (ts[j].2.drop 1).map V.int := by
            have e := cut_from (xs := ts[j].2.map V.int) (n := 1) (by rw [List.length_map, lu]; omega)
            rw [List.map_drop]
            exact e
          have eL : ts[j].2.map V.int ++ [V.int 0] = (ts[j].2 ++ [0]).map V.int := by rw [List.map_append] <;> rfl
          have hv : ∃ e, Dv H3 v e ∧ isE A (ts.length : Int) e = false ∧ (itemsD e).length ≤ 1000 := by
            have bad : ∀ r : List Int, r.length ≠ A → isE A (ts.length : Int) (lstP r) = false := fun r hr => by
              show (true && (decide (((r.map PyData.int).length : Int) = A) && _)) = false
              rw [List.length_map, decide_eq_false (by omega)]
              rfl
            refine pick5 (P := fun v => ∃ e, Dv H3 v e ∧ isE A (ts.length : Int) e = false ∧ (itemsD e).length ≤ 1000) hi ⟨lstP (ts[j].2 ++ [0]), .lst (by rw [kq2, eL]) (dvAll_ints _), bad _ (by rw [List.length_append, lu]; simp), ?_⟩ ⟨lstP (ts[j].2.drop 1), .lst (by rw [kq3, c3]) (dvAll_ints _), bad _ (by rw [List.length_drop, lu]; omega), ?_⟩ ⟨_, .non, rfl, by decide⟩ ⟨_, .str _, rfl, by show 0 ≤ 1000; decide⟩ ⟨_, .int 0, rfl, by decide⟩
            · show ((ts[j].2 ++ [0]).map PyData.int).length ≤ 1000
              rw [List.length_map, List.length_append, lu]
              show A + 1 ≤ 1000
              omega
            · show ((ts[j].2.drop 1).map PyData.int).length ≤ 1000
              rw [List.length_map, List.length_drop, lu]
              omega
          obtain ⟨e, De, he, hze⟩ := hv
          refine ⟨by show 1 ≤ sizeLine; decide, fun p3 hp3 => ?_⟩
          refine ⟨p1, p3, _, _, rfl, rfl, nk kp1 hp3, upd_same, ?_, fun p4 hp4 => ?_⟩
          · exact hcl1
          have GB := (G8.new (o := HO.lst [v]) hp3).new (o := HO.lst (cutV (ts.map fun t => V.ref t.1) none (some (j : Int)) ++ [v])) hp4
          refine ⟨_, rfl, _, rfl, _, _, rfl, rfl, _, rfl, a, _, rfl, SqL.of GB.top, fun p5 hp5 => ?_⟩
          refine ⟨p4, p5, _, _, rfl, rfl, nk upd_same hp5, upd_same, hcl2 v, fun p6 hp6 => ?_⟩
          refine ⟨_, rfl, _, _, rfl, rfl, by show 3 ≤ sizeLine; decide, fun t ht => ?_⟩
          have Sf : Same H3 _ := (Same.new hp3).trans ((Same.new (o := HO.lst (cutV (ts.map fun t => V.ref t.1) none (some (j : Int)) ++ [v])) hp4).trans ((Same.new (o := HO.lst (cutV (ts.map fun t => V.ref t.1) (some ((j : Int) + 1)) none)) hp5).trans ((Same.new (o := HO.lst (cutV (ts.map fun t => V.ref t.1) none (some (j : Int)) ++ [v] ++ cutV (ts.map fun t => V.ref t.1) (some ((j : Int) + 1)) none)) hp6).trans (Same.new (o := HO.tup [V.int (A : Int), V.ref p6, V.int (2 + (j : Int))]) ht))))
          have Df := (((((D8.new (o := HO.lst [v]) hp3).new (o := HO.lst (cutV (ts.map fun t => V.ref t.1) none (some (j : Int)) ++ [v])) hp4).new (o := HO.lst (cutV (ts.map fun t => V.ref t.1) (some ((j : Int) + 1)) none)) hp5).new (o := HO.lst (cutV (ts.map fun t => V.ref t.1) none (some (j : Int)) ++ [v] ++ cutV (ts.map fun t => V.ref t.1) (some ((j : Int) + 1)) none)) hp6).new (o := HO.tup [V.int (A : Int), V.ref p6, V.int (2 + (j : Int))]) ht)
          have hz2 := hsz e hze
          refine k _ t (.int (A : Int)) (.ref p6) (.int (A : Int)) _ (2 + (j : Int)) Df (((S1.trans S2).trans S23).trans (KP.same Sf).sb) upd_same (.int _) (dv_mid (i := j) (fun u hu => Sf _ _ (G8.row u hu)) (De.same Sf) (by rw [nk upd_same ht, c1, c2])) hz2.1 hz2.2 (hmk e he)
        · -- a cell is wrong
          refine ⟨_, rfl, _, rfl, a, _, rfl, .inl (SqL.of G3.top), 1, rfl, by show 1 ≤ sizeLine; decide, fun q1 h1 => ⟨by show 6 ≤ sizeLine; decide, fun q2 h2 => ?_⟩⟩
          rw [hlr] at *
          refine ⟨d, l, q2, _, rfl, upd_same, (D3.new h1).free h2, by show 0 < 6; decide, by show 6 ≤ 1000; decide, (D3.new h1).new h2, fun H3 i v D4 S4 hi => ?_⟩
          have S34 : SB d l H2 H3 := S3.trans ((SB.new h1).trans ((SB.new h2).trans S4))
          have hq3 : H3 q = some (.lst (ts[j].2.map V.int)) := S4.kp.get nq (nk (nk upd_same h1) h2)
          refine ⟨_, rfl, _, rfl, _, rfl, d, l, _, rfl, by omega, by omega, D4, fun H4 c D5 S5 c0 c1' => ?_⟩
          have hq4 : H4 q = some (.lst (ts[j].2.map V.int)) := S5.kp.get nq hq3
          have hq1 : H4 q1 = some (.tup [V.int 0]) := S5.kp.get (D3.free h1) (S4.kp.get (D3.free h1) (nk upd_same h2))
          have n1q : q1 ≠ q := fun e => by rw [e, upd_same] at h1; cases h1
          refine ⟨q, _, c, c.toNat, rfl, rfl, hq4, ?_, ?_⟩
          · rw [List.length_map, lu]
            unfold ixN
            rw [if_pos c0, if_pos c1']
          have hv : ∃ e, Dv (upd H4 q (.lst ((ts[j].2.map V.int).set c.toNat v))) v e ∧ isB (ts.length : Int) e = false ∧ (itemsD e).length ≤ 1000 := by
            refine pick6 (P := fun v' => ∃ e, Dv (upd H4 q (.lst ((ts[j].2.map V.int).set c.toNat v))) v' e ∧ isB (ts.length : Int) e = false ∧ (itemsD e).length ≤ 1000) hi ⟨_, .int _, ?_, by show 0 ≤ 1000; decide⟩ ⟨_, .int (-1), rfl, by decide⟩ ⟨_, .non, rfl, by decide⟩ ⟨_, .bl true, rfl, by decide⟩ ⟨_, .str _, rfl, by show 0 ≤ 1000; decide⟩ ⟨_, .tup ((upd_ne n1q).trans hq1) (.cons (.int 0) .nil), rfl, by show 1 ≤ 1000; decide⟩
            show (decide (0 ≤ (ts.length : Int)) && decide ((ts.length : Int) < (ts.length : Int))) = false
            rw [decide_eq_false (show ¬ (ts.length : Int) < (ts.length : Int) by omega), Bool.and_false]
          obtain ⟨e0, De0, he0, hz0⟩ := hv
          have Dq : Dv (upd H4 q (.lst ((ts[j].2.map V.int).set c.toNat v))) (.ref q) (.list ((ts[j].2.map PyData.int).set c.toNat e0)) := .lst upd_same ((dvAll_ints ts[j].2).set De0)
          have hc : c.toNat < A := by omega
          have he : isE A (ts.length : Int) (.list ((ts[j].2.map PyData.int).set c.toNat e0)) = false := by
            show (true && (_ && ((ts[j].2.map PyData.int).set c.toNat e0).all (isB (ts.length : Int)))) = false
            rw [all_set_false (by rw [List.length_map, lu]; exact hc) he0, Bool.and_false]
            rfl
          have hze : (itemsD (.list ((ts[j].2.map PyData.int).set c.toNat e0))).length ≤ 1000 := by
            show ((ts[j].2.map PyData.int).set c.toNat e0).length ≤ 1000
            rw [List.length_set, List.length_map, lu]
            omega
          have D6 : DealAt (upd H4 q (.lst ((ts[j].2.map V.int).set c.toNat v))) d l := D5.upd nq
          have nG : ∀ u ∈ ts, ¬ u.1 = q := fun u hu' e => by
            have := G2.row u hu'
            rw [e, hq] at this
            cases this
          have naq : ¬ a = q := fun e => by
            have := G2.top
            rw [e, hq] at this
            cases this
          have G6 : GridAt (upd H4 q (.lst ((ts[j].2.map V.int).set c.toNat v))) a ts := (G2.kp (S34.trans S5).kp na nt).kp (kp_upd (S := fun z => z = q) rfl) naq nG
          have S6 : SB d l H2 (upd H4 q (.lst ((ts[j].2.map V.int).set c.toNat v))) := ((S34.trans S5).kp.mut hq).sb
          refine ⟨_, rfl, _, rfl, _, rfl, (j : Int), rfl, a, _, rfl, SqL.of G6.top, fun p1 hp1 => ?_⟩
          refine ⟨_, rfl, by show 1 ≤ sizeLine; decide, fun p3 hp3 => ?_⟩
          refine ⟨p1, p3, _, _, rfl, rfl, nk upd_same hp3, upd_same, hcl1, fun p4 hp4 => ?_⟩
          have GB := ((G6.new (o := HO.lst (cutV (ts.map fun t => V.ref t.1) none (some (j : Int)))) hp1).new (o := HO.lst [V.ref q]) hp3).new (o := HO.lst (cutV (ts.map fun t => V.ref t.1) none (some (j : Int)) ++ [V.ref q])) hp4
          refine ⟨_, rfl, _, rfl, _, _, rfl, rfl, _, rfl, a, _, rfl, SqL.of GB.top, fun p5 hp5 => ?_⟩
          refine ⟨p4, p5, _, _, rfl, rfl, nk upd_same hp5, upd_same, hcl2 _, fun p6 hp6 => ?_⟩
          refine ⟨_, rfl, _, _, rfl, rfl, by show 3 ≤ sizeLine; decide, fun t ht => ?_⟩
          have Sf : Same (upd H4 q (.lst ((ts[j].2.map V.int).set c.toNat v))) _ := (Same.new (o := HO.lst (cutV (ts.map fun t => V.ref t.1) none (some (j : Int)))) hp1).trans ((Same.new hp3).trans ((Same.new (o := HO.lst (cutV (ts.map fun t => V.ref t.1) none (some (j : Int)) ++ [V.ref q])) hp4).trans ((Same.new (o := HO.lst (cutV (ts.map fun t => V.ref t.1) (some ((j : Int) + 1)) none)) hp5).trans ((Same.new (o := HO.lst (cutV (ts.map fun t => V.ref t.1) none (some (j : Int)) ++ [V.ref q] ++ cutV (ts.map fun t => V.ref t.1) (some ((j : Int) + 1)) none)) hp6).trans (Same.new (o := HO.tup [V.int (A : Int), V.ref p6, V.int (2 + (j : Int))]) ht)))))
          have Df := (((((D6.new (o := HO.lst (cutV (ts.map fun t => V.ref t.1) none (some (j : Int)))) hp1).new (o := HO.lst [V.ref q]) hp3).new (o := HO.lst (cutV (ts.map fun t => V.ref t.1) none (some (j : Int)) ++ [V.ref q])) hp4).new (o := HO.lst (cutV (ts.map fun t => V.ref t.1) (some ((j : Int) + 1)) none)) hp5).new (o := HO.lst (cutV (ts.map fun t => V.ref t.1) none (some (j : Int)) ++ [V.ref q] ++ cutV (ts.map fun t => V.ref t.1) (some ((j : Int) + 1)) none)) hp6).new (o := HO.tup [V.int (A : Int), V.ref p6, V.int (2 + (j : Int))]) ht
          have hz2 := hsz _ hze
          refine k _ t (.int (A : Int)) (.ref p6) (.int (A : Int)) _ (2 + (j : Int)) Df (((S1.trans S2).trans S6).trans (KP.same Sf).sb) upd_same (.int _) (dv_mid (i := j) (fun u hu => Sf _ _ (G6.row u hu)) (Dq.same Sf) (by rw [nk upd_same ht, c1, c2])) hz2.1 hz2.2 (hmk _ he)
end
end Lk

set_option Elab.async false
set_option linter.all false
set_option maxRecDepth 100000
set_option maxHeartbeats 4000000
namespace Lk
open PySem L2
theorem rows_of {F : List Int → List Int} {ts us : List (Addr × List Int)} (hl : us.length = ts.length) (h : ∀ (i : Nat) t, us[i]? = some t → ∃ u, ts[i]? = some u ∧ t.2 = F u.2) : rsOf us = (rsOf ts).map F := by
  refine List.ext_getElem? fun k => ?_
  rw [List.getElem?_map]
  cases hk : us[k]? with
  | none =>
    have q1 : us.length ≤ k := List.getElem?_eq_none_iff.mp hk
    have q2 : (rsOf ts)[k]? = none := List.getElem?_eq_none_iff.mpr (by rw [rsOf_len]; omega)
    have q3 : (rsOf us)[k]? = none := List.getElem?_eq_none_iff.mpr (by rw [rsOf_len]; exact q1)
    rw [q2, q3] <;> rfl
  | some t =>
    obtain ⟨u, hu, e⟩ := h k t hk
    rw [rsOf_get hk, rsOf_get hu, e] <;> rfl
section
variable {K : PySem.W.Frag} {j : Nat} {te : TE} {σ : St} {H1 : Hp} {D : Addr} {Qd : Hp → Prop} {d l : Addr}
/-- rows made of a list's rows, in new lists -/
theorem lcF {a : Addr} {ts : List (Addr × List Int)} (F : List Int → List Int) (hD : H1 D = none) (hI : DealAt H1 d l) (G : GridAt H1 a ts) (na : ¬ dl d l a) (nt : ∀ t ∈ ts, ¬ dl d l t.1) (hn : ts.length ≤ 1000)
    (hs : ∀ u ∈ ts, ∀ H, DealAt H d l → SB d l H1 H → H u.1 = some (.lst (u.2.map V.int)) → ∀ Q : VK, (∀ b, H b = none → Q (.ref b) (upd H b (.lst ((F u.2).map V.int)))) → te ((wipe σ [j]).set j (some (.ref u.1))) H Q)
    (hd : ∀ us H', rsOf us = (rsOf ts).map F → NewG H1 D us → GridAt H' D us → DealAt H' d l → SB d l H1 H' → Qd H') :
    ∃ W : Nat → Nat → Hp → Prop, (∃ m, W 0 m (upd H1 D (.lst []))) ∧ ∀ i m H, W i m H →
      ((Itl K a).stop i H ∧ Qd H) ∨ ((Itl K a).go i H ∧ ∃ Nx : Hp → Prop, (∀ H', Nx H' → ∃ m', m' < m ∧ W (i + 1) m' H') ∧ ∀ x H', (Itl K a).yld i H x H' → gName j x (wipe σ [j]) H' fun σ2 H2 => wipe σ2 [j] = wipe σ [j] ∧ tYes σ2 H2 fun b H3 =>
        if b = true then te σ2 H3 fun y H4 => ∃ acc, H4 D = some (.lst acc) ∧ acc.length < sizeLine ∧ Nx (upd H4 D (.lst (acc ++ [y]))) else Nx H3) := by
  refine lcGL (K := K) (a := a) (xs := ts.map fun t => V.ref t.1) (fun i r => ∃ u, ts[i]? = some u ∧ r = F u.2) hD hI (by rw [List.length_map]; omega) (fun H3 k3 => SqL.of (k3.kp.get na G.top)) (fun i x H3 hi x3 k3 Q3 kQ => ?_) (fun us H3 hl hz hN hG x3 k3 => ?_)
  · rw [List.getElem?_map] at hi
    obtain ⟨u, hu, rfl⟩ : ∃ u, ts[i]? = some u ∧ V.ref u.1 = x := by
      cases e : ts[i]? with
      | none => rw [e] at hi; cases hi
      | some u => rw [e] at hi; exact ⟨u, rfl, Option.some.inj hi⟩
    have hm := mem_of_get hu
    exact hs u hm H3 x3 k3 (k3.kp.get (nt u hm) (G.row u hm)) Q3 fun b hb => kQ b (F u.2) _ (x3.new hb) (SB.new hb) hb upd_same ⟨u, hu, rfl⟩
  · rw [List.length_map] at hl
    exact hd us H3 (rows_of hl hz) hN hG x3 k3
/-- what is made in new tuples -/
theorem lcFT {a : Addr} {ts : List (Addr × List Int)} (hD : H1 D = none) (hI : DealAt H1 d l) (G : GridAt H1 a ts) (na : ¬ dl d l a) (nt : ∀ t ∈ ts, ¬ dl d l t.1) (hn : ts.length ≤ 1000)
    (hs : ∀ u ∈ ts, ∀ H, DealAt H d l → SB d l H1 H → H u.1 = some (.lst (u.2.map V.int)) → ∀ Q : VK, (∀ b, H b = none → Q (.ref b) (upd H b (.tup (u.2.map V.int)))) → te ((wipe σ [j]).set j (some (.ref u.1))) H Q)
    (hd : ∀ (us : List (Addr × List Int)) H', rsOf us = rsOf ts → H' D = some (.lst (us.map fun u => V.ref u.1)) → (∀ u ∈ us, H' u.1 = some (.tup (u.2.map V.int))) → (∀ u ∈ us, u.1 ≠ D) → DealAt H' d l → SB d l H1 H' → Qd H') :
    ∃ W : Nat → Nat → Hp → Prop, (∃ m, W 0 m (upd H1 D (.lst []))) ∧ ∀ i m H, W i m H →
      ((Itl K a).stop i H ∧ Qd H) ∨ ((Itl K a).go i H ∧ ∃ Nx : Hp → Prop, (∀ H', Nx H' → ∃ m', m' < m ∧ W (i + 1) m' H') ∧ ∀ x H', (Itl K a).yld i H x H' → gName j x (wipe σ [j]) H' fun σ2 H2 => wipe σ2 [j] = wipe σ [j] ∧ tYes σ2 H2 fun b H3 =>
        if b = true then te σ2 H3 fun y H4 => ∃ acc, H4 D = some (.lst acc) ∧ acc.length < sizeLine ∧ Nx (upd H4 D (.lst (acc ++ [y]))) else Nx H3) := by
  have nD : ¬ dl d l D := hI.free hD
  refine lcL (K := K) (a := a) (xs := ts.map fun t => V.ref t.1) (dl d l) (fun H => DealAt H d l) (fun i y H' => ∃ t : Addr × List Int, y = V.ref t.1 ∧ H1 t.1 = none ∧ t.1 ≠ D ∧ H' t.1 = some (.tup (t.2.map V.int)) ∧ ∃ u, ts[i]? = some u ∧ t.2 = u.2) hD nD (by rw [List.length_map]; omega) hI (fun H o x => x.upd nD)
    (fun i y H H' k ⟨t, e, h1, h2, h3, h4⟩ => ⟨t, e, h1, h2, k.get (fun q => q.elim (hI.free h1) h2) h3, h4⟩) (fun H k => SqL.of (k.get na G.top)) (fun i x H acc hi x3 k3 hDa Q kQ => ?_) (fun ys H' hl hf hD' x3 k3 => ?_)
  · rw [List.getElem?_map] at hi
    obtain ⟨u, hu, rfl⟩ : ∃ u, ts[i]? = some u ∧ V.ref u.1 = x := by
      cases e : ts[i]? with
      | none => rw [e] at hi; cases hi
      | some u => rw [e] at hi; exact ⟨u, rfl, Option.some.inj hi⟩
    have hm := mem_of_get hu
    refine hs u hm H x3 k3.sb (k3.get (nt u hm) (G.row u hm)) Q fun b hb => kQ _ _ (x3.new hb) (KP.new hb) ⟨(b, u.2), rfl, k3.free (x3.free hb) hb, fun e => ?_, upd_same, u, hu, rfl⟩
    have e' : b = D := e
    rw [e', hDa] at hb
    cases hb
  · obtain ⟨us, rfl, ht⟩ := collect (g := fun u : Addr × List Int => V.ref u.1) hf
    rw [List.length_map, List.length_map] at hl
    have hm : ∀ t ∈ us, t.1 ≠ D ∧ H' t.1 = some (.tup (t.2.map V.int)) := fun t h => by
      obtain ⟨i, hi⟩ := List.getElem?_of_mem h
      exact ⟨(ht i t hi).2.1, (ht i t hi).2.2.1⟩
    refine hd us H' ?_ hD' (fun u hu => (hm u hu).2) (fun u hu => (hm u hu).1) x3 k3.sb
    have e := rows_of (F := id) hl fun i t hi => (ht i t hi).2.2.2
    rw [e, List.map_id]
/-- over enumerate of a list, into the slots i and j -/
theorem lcE {i j : Nat} {a : Addr} {xs : List V} (S : Addr → Prop) (I : Hp → Prop) (f : Nat → V → Hp → Prop) (hD : H1 D = none) (hS : ¬ S D) (hn : xs.length ≤ 1000000) (hI : I H1) (mI : ∀ H p o, ¬ S p → I H → I (upd H p o)) (fr : ∀ H p, I H → H p = none → ¬ S p)
    (mf : ∀ i y H H', KP (fun a => S a ∨ a = D) H H' → f i y H → f i y H') (ha : ∀ H, KP S H1 H → SqL K H a xs) (hw : ∀ x y : V, wipe (((wipe σ [i, j]).set i (some x)).set j (some y)) [i, j] = wipe σ [i, j])
    (hs : ∀ k x H acc, xs[k]? = some x → I H → KP S H1 H → H D = some (.lst acc) → ∀ Q : VK, (∀ y H4, I H4 → KP S H H4 → f k y H4 → Q y H4) → te (((wipe σ [i, j]).set i (some (.int (k : Int)))).set j (some x)) H Q)
    (hd : ∀ ys H', ys.length = xs.length → (∀ i y, ys[i]? = some y → f i y H') → H' D = some (.lst ys) → I H' → KP S H1 H' → Qd H') :
    ∃ W : Nat → Nat → Hp → Prop, (∃ m, W 0 m (upd H1 D (.lst []))) ∧ ∀ k m H, W k m H →
      ((Ite K a).stop k H ∧ Qd H) ∨ ((Ite K a).go k H ∧ ∃ Nx : Hp → Prop, (∀ H', Nx H' → ∃ m', m' < m ∧ W (k + 1) m' H') ∧ ∀ x H', (Ite K a).yld k H x H' → gTup K 2 (gCons (gName i) (gCons (gName j) gNil)) x (wipe σ [i, j]) H' fun σ2 H2 => wipe σ2 [i, j] = wipe σ [i, j] ∧ tYes σ2 H2 fun b H3 =>
        if b = true then te σ2 H3 fun y H4 => ∃ acc, H4 D = some (.lst acc) ∧ acc.length < sizeLine ∧ Nx (upd H4 D (.lst (acc ++ [y]))) else Nx H3) := by
  refine ⟨fun k m H => m = xs.length - k ∧ k ≤ xs.length ∧ Lcp S I f H1 D k H, ⟨xs.length, rfl, Nat.zero_le _, Lcp.zero hD (fun H o x => mI H D o hS x) hI⟩, ?_⟩
  rintro k m H ⟨rfl, hk, p⟩
  have qa := ha H p.2.1
  by_cases hlt : k < xs.length
  · have ga : xs[k]? = some xs[k] := List.getElem?_eq_getElem hlt
    refine .inr ⟨⟨xs, _, qa, ga⟩, fun H => Lcp S I f H1 D (k + 1) H, fun H' q => ⟨xs.length - (k + 1), by omega, rfl, hlt, q⟩, ?_⟩
    rintro v H' ⟨T, x, rfl, hT, rfl, f1⟩
    have ex := f1 _ qa
    rw [ga] at ex
    obtain rfl := Option.some.inj ex
    have nT := fr _ _ p.1 hT
    have hTD : T ≠ D := fun e => by
      obtain ⟨_, _, ys, e2, _⟩ := p
      rw [e, e2] at hT
      cases hT
    obtain ⟨p1, p2, ys, e, hl, hf⟩ := p
    have pT : Lcp S I f H1 D k (upd H T (.tup [V.int (k : Int), xs[k]])) := ⟨mI _ _ _ nT p1, p2.trans (KP.new hT), ys, (upd_ne (Ne.symm hTD)).trans e, hl, fun i y hy => mf _ _ _ _ (KP.new hT) (hf i y hy)⟩
    refine ⟨T, _, rfl, SqT.of upd_same, rfl, _, _, rfl, _, _, rfl, rfl, hw _ _, iteT (B := Lcp S I f H1 D (k + 1) (upd H T (.tup [V.int (k : Int), xs[k]]))) ?_⟩
    exact hs k _ _ ys ga pT.1 pT.2.1 ((upd_ne (Ne.symm hTD)).trans e) _ fun y H4 h1 h2 h3 => pT.step hD hS (fun H o x => mI H D o hS x) mf (by omega) h1 h2 h3
  · have e : k = xs.length := by omega
    subst e
    obtain ⟨p1, p2, ys, e, hl, hf⟩ := p
    exact .inl ⟨⟨_, qa, Nat.le_refl _⟩, hd ys H hl hf e p1 p2⟩
end
end Lk

set_option Elab.async false
set_option linter.all false
set_option maxRecDepth 100000
set_option maxHeartbeats 4000000
namespace Lk
open PySem L2
abbrev s_law_unlike : Stmt := top 40
abbrev N_law_unlike : List Str := ["_law_deal", "_law_commands", "_law_steps", "_law_made", "_law_at", "_law_command", "_law_other", "_law_row_here", "_law_wrong_here", "_law_state"]
abbrev P_law_unlike : List Str := ["_law_deal", "_law_commands", "_law_steps", "_law_made"]
theorem sc_law_unlike : FnScope N_law_unlike P_law_unlike (defScope s_law_unlike) := ⟨rfl, rfl, rfl, by decide +kernel, rfl, by decide +kernel, by decide +kernel⟩
/-- a deal, a drawn machine's data in lists, and a machine made of it -/
structure Game (CM : Addr) (H : Hp) (d l a m : Addr) (A : Nat) (ts us : List (Addr × List Int)) : Prop where
  D : DealAt H d l
  G : GridAt H a ts
  na : ¬ dl d l a
  nt : ∀ t ∈ ts, ¬ dl d l t.1
  R : RowsOk A ts
  A0 : 0 < A
  A5 : A ≤ 5
  hz : ts.length ≤ 100
  M : MachAt CM H m A us
  e : rsOf us = rsOf ts
theorem Game.go {CM : Addr} {H H' : Hp} {d l a m : Addr} {A : Nat} {ts us : List (Addr × List Int)} (g : Game CM H d l a m A ts us) (D' : DealAt H' d l) (S : SB d l H H') : Game CM H' d l a m A ts us :=
  ⟨D', g.G.kp S.kp g.na g.nt, g.na, g.nt, g.R, g.A0, g.A5, g.hz, g.M.nl (NL.of_sb S g.D), g.e⟩
theorem Game.new {CM : Addr} {H : Hp} {d l a m p : Addr} {o : HO} {A : Nat} {ts us : List (Addr × List Int)} (g : Game CM H d l a m A ts us) (h : H p = none) : Game CM (upd H p o) d l a m A ts us :=
  g.go (g.D.new h) (SB.new h)
theorem Game.same {CM : Addr} {H H' : Hp} {d l a m : Addr} {A : Nat} {ts us : List (Addr × List Int)} (g : Game CM H d l a m A ts us) (S : Same H H') : Game CM H' d l a m A ts us := by
  obtain ⟨bs, b, x⟩ := g.D
  exact g.go ⟨bs, b, S _ _ x.hd, S _ _ x.hl, x.pos, x.len, x.b0, x.b1⟩ (KP.same S).sb
theorem Game.rows {CM : Addr} {H : Hp} {d l a m : Addr} {A : Nat} {ts us : List (Addr × List Int)} (g : Game CM H d l a m A ts us) : Rs A (rsOf ts) := g.R.rs
theorem DealAt.same {H H' : Hp} {d l : Addr} (x : DealAt H d l) (S : Same H H') : DealAt H' d l := by
  obtain ⟨bs, b, x⟩ := x
  exact ⟨bs, b, S _ _ x.hd, S _ _ x.hl, x.pos, x.len, x.b0, x.b1⟩
/-- what the top says of == of the class -/
structure EqT (P : Program) (w : World) (K : PySem.W.Frag) (mg : Str → Option Value) (base : Heap) (CM fE : Addr) (fdE : FuncData) : Prop where
  G : FnOk P w K mg base CX0 1 fE fdE P_Machine___eq (spEqM CM)
  b : Binds K fdE P_Machine___eq []
  T : TxE K mg CM fE
theorem stepsRes_first {A : Int} {ds : List PyData} {i : Nat} {e : PyData} (hi : ds[i]? = some e) (he : isE A (ds.length : Int) e = false) (h : ∀ d ∈ ds.take i, isE A (ds.length : Int) d = true) : stepsRes A (.list ds) = some (2 + (i : Int)) := by
  have hlt := cases_list hi
  have e1 : ds = ds.take i ++ e :: ds.drop (i + 1) := by
    rw [← drop_get hi, List.take_append_drop]
  have e0 : itemsD (.list ds) = ds := rfl
  unfold stepsRes
  rw [if_neg (fun q => q.elim (fun e => by cases e) fun e => by
    have e' : ds = [] := e
    rw [e'] at hlt
    simp at hlt), e0]
  have e2 : badAt A (ds.length : Int) ds 0 = some i := by
    have q : badAt A (ds.length : Int) (ds.take i ++ e :: ds.drop (i + 1)) 0 = some (0 + (ds.take i).length) := badAt_at he h
    rw [← e1, List.length_take, Nat.min_eq_left (by omega), Nat.zero_add] at q
    exact q
  rw [e2] <;> rfl
theorem dvAll_of {H : Hp} : ∀ {xs : List V} {ds : List PyData}, xs.length = ds.length → (∀ (k : Nat) y, xs[k]? = some y → ∃ d, ds[k]? = some d ∧ Dv H y d) → DvAll H xs ds
  | [], [], _, _ => .nil
  | [], _ :: _, h, _ => by simp at h
  | _ :: _, [], h, _ => by simp at h
  | x :: xs, d :: ds, h, f => by
    obtain ⟨d', e, Dx⟩ := f 0 x rfl
    have e' : d = d' := Option.some.inj e
    rw [← e'] at Dx
    exact .cons Dx (dvAll_of (Nat.succ.inj h) fun k y hk => f (k + 1) y hk)
theorem zero_rows {A : Nat} {rs : List (List Int)} (x : Rs A rs) (h : rs.length = 1) : rs = [List.replicate A 0] := by
  match rs, h with
  | [r], _ =>
    obtain ⟨h1, h2⟩ := x.row r List.mem_cons_self
    have e : r = List.replicate A 0 := List.eq_replicate_iff.mpr ⟨h1, fun z hz => by
      have := h2 z hz
      simp at this
      omega⟩
    rw [e]
theorem makeRes_int {A : Nat} {ds : PyData} (h : 0 < A) : makeRes (.int (A : Int)) ds = stepsRes (A : Int) ds := by
  unfold makeRes
  rw [if_neg (by
    show ¬ decide ((A : Int) ≤ 0) = true
    rw [decide_eq_false (by omega)]
    decide)]
  rfl
def spUnlike (CM : Addr) : Sp := fun vs H Q _ => ∃ (d l a m : Addr) (A : Nat) (ts us : List (Addr × List Int)), vs = [.ref d, .int (A : Int), .ref a, .ref m] ∧ Game CM H d l a m A ts us ∧ ∀ H', DealAt H' d l → SB d l H H' → Q (.bl true) H'
/-- a machine of rows in lists is made -/
theorem make_rows {CM CE : Addr} {H1 : Hp} {a : Addr} {A : Nat} {ts : List (Addr × List Int)} {Q : Addr → Hp → Prop} {E : XK} (hA : 0 < A) (h5 : A ≤ 1000) (G : GridAt H1 a ts) (R : Rs A (rsOf ts)) (hz : ts.length ≤ 1000)
    (h : ∀ H' m us, Same H1 H' → H1 m = none → MachAt CM H' m (A : Int) us → rsOf us = rsOf ts → Q m H') :
    ∀ x0 dx, H1 x0 = none → H1 dx = none → dx ≠ x0 → spInit CM CE (.ref x0 :: ([.int (A : Int), .ref a] ++ [])) (upd (upd H1 dx (.own x0)) x0 (.ins CM dx [])) (fun v H2 => v = .non ∧ Q x0 H2) E := by
  refine make_any (dc := .int (A : Int)) (ds := .list ((rsOf ts).map lstP)) (.int _) (.lst G.top (dv_rowsL G.row)) ?_ (fun e he => ?_) ?_
  · show ((rsOf ts).map lstP).length ≤ 1000
    rw [List.length_map, rsOf_len]
    exact hz
  · obtain ⟨r, hr, rfl⟩ := List.mem_map.mp he
    show (r.map PyData.int).length ≤ 1000
    rw [List.length_map, (R.row r hr).1]
    exact h5
  · have e : makeRes (.int (A : Int)) (.list ((rsOf ts).map lstP)) = none := by
      unfold makeRes
      rw [if_neg (by
        show ¬ decide ((A : Int) ≤ 0) = true
        rw [decide_eq_false (by omega)]
        decide)]
      exact stepsRes_rows (A := A) (g := lstP) rfl rfl (fun n r h => isE_lst h) R
    rw [e]
    refine fun H' m us S hm M eR => h H' m us S hm M ?_
    rw [eR]
    exact map_rowD rowD_lst _
section
variable {P : Program} {w : World} {K : PySem.W.Frag} {mg : Str → Option Value} {base : Heap} {CM CE fI fE : Addr} {fdI fdE : FuncData}
theorem ok_unlike {f fa fr : Addr} {fd fda fdr : FuncData} (A0 : Df K mg "_law_unlike" s_law_unlike f fd P_law_unlike) (d_law_any : Df K mg "_law_any" s_law_any fa fda P_law_any) (d_law_refused : Df K mg "_law_refused" s_law_refused fr fdr P_law_refused) (G_law_refused : FnOk P w K mg base CX0 9 fr fdr P_law_refused spRefused)
    (MC : McT K mg CM fI fdI) (GI : FnOk P w K mg base (L2.CX P w) 7 fI fdI P_Machine___init (spInit CM CE)) (EQ : EqT P w K mg base CM fE fdE) (T : Txt mg) : FnOk P w K mg base CX0 10 f fd P_law_unlike (spUnlike CM) := by
  have G_law_any : FnOk P w K mg base CX0 1 fa fda P_law_any spAny := ok_any d_law_any T
  refine A0.F.ok sc_law_unlike (fun vs H Q E h => ?_) (fun cdv Ar outer s H vs Q E hr h => ?_)
  · obtain ⟨d, l, a, m, A, ts, us, rfl, _⟩ := h
    rfl
  · obtain ⟨d, l, a, m, A, ts, us, rfl, g, k⟩ := h
    have hu : Ar.units + 3 + 64 < cLine := by have := hr.un; simp only [Around.deeper] at this; omega
    refine ⟨_, (pss_cons (ps_asg (pe_tup (pa_cons (pe_call G_law_any (hr.mono (by decide)) rfl d_law_any.g d_law_any.F.kp d_law_any.b .nil pass0 (pa_cons (pv 0) (pa_cons (pe_callB call_len_seq (by rfl) T.len PySem.boot_len (pa_cons (pv 2) pa_nil)) pa_nil))) (pa_cons (pe_call G_law_any (hr.mono (by decide)) rfl d_law_any.g d_law_any.F.kp d_law_any.b .nil pass0 (pa_cons (pv 0) (pa_cons (pv 1) pa_nil))) pa_nil))) (pg_tup rfl (pgs_cons (pg_name (i := 4) sc_law_unlike.nd rfl (Or.inr rfl)) (pgs_cons (pg_name (i := 5) sc_law_unlike.nd rfl (Or.inl rfl)) pgs_nil))))
    (pss_cons (ps_setLc (i := 6) (own := [("_law_row_here", 7)]) (g := gName 7) (tt := tYes) (te := tCB (rLs K) (tCons (tVar 7) tNil)) rfl sc_law_unlike.nd rfl rfl (sw_true rfl rfl rfl (by decide +kernel)) (pi_list (pv 2)) (blkOk_by (N := N_law_unlike) (sc := defScope s_law_unlike) (by decide +kernel)) (fun _ _ _ _ _ => (pg_name (i := 7) sc_law_unlike.nd rfl (Or.inl rfl))) (fun _ _ _ _ _ => pts_nil) (fun _ _ _ _ _ => (pe_callTy call_list_of (by rfl) T.list (by decide +kernel) (pa_cons (pv 7) pa_nil))))
    (pss_cons (ps_asg (pe_op op_mod (pe_callTy call_int1 (by rfl) T.int (by decide +kernel) (pa_cons (pe_op op_add (pe_ix ix_list (pe_ix ix_list (pv 6) (pv 4) (fun _ _ => rfl)) (pv 5) (fun _ _ => rfl)) pe_int) pa_nil)) (pe_callB call_len_seq (by rfl) T.len PySem.boot_len (pa_cons (pv 2) pa_nil))) (pg_sub (pe_ix ix_list (pv 6) (pv 4) (fun _ _ => rfl)) (pv 5) set_list))
    (pss_cons (ps_if (pt_cmpR op_ne (pe_cmpR (op_eqM EQ.G EQ.b EQ.T (hr.mono (by decide))) (pv 3) (pe_make MC.mM GI (hr.mono (by decide)) rfl MC.g MC.b .nil (pass_never (P := P) (w := w)) (pa_cons (pv 1) (pa_cons (pv 6) pa_nil))) (nomark _)) (pe_cmpR op_eq (pe_callB call_len_seq (by rfl) T.len PySem.boot_len (pa_cons (pv 2) pa_nil)) pe_int (nomark _)) (nomark _)) (pss_one (ps_ret pe_bl)) pss_nil)
    (pss_cons (ps_if (PW.pt (pw_and (pt_cmpR (op_eqM EQ.G EQ.b EQ.T (hr.mono (by decide))) (pv 3) (pe_make MC.mM GI (hr.mono (by decide)) rfl MC.g MC.b .nil (pass_never (P := P) (w := w)) (pa_cons pe_int (pa_cons (pe_lc (own := [("_law_row_here", 7)]) (g := gName 7) (tt := tYes) (te := tSl (rSlL K) (tVar 7) tNoPart (tPart (tC (.int 1)))) rfl sc_law_unlike.nd (pi_list (pv 2)) (blkOk_by (N := N_law_unlike) (sc := defScope s_law_unlike) (by decide +kernel)) (fun _ _ _ _ _ => (pg_name (i := 7) sc_law_unlike.nd rfl (Or.inl rfl))) (fun _ _ _ _ _ => pts_nil) (fun _ _ _ _ _ => (pe_slice sl_list (pv 7) po_none (po_some pe_int)))) pa_nil))) (nomark _)) (pw_and1 (pt_cmpR op_gt (pv 1) pe_int (nomark _))))) (pss_one (ps_ret pe_bl)) pss_nil)
    (pss_cons (ps_setLc (i := 8) (own := [("_law_state", 9), ("_law_row_here", 7)]) (g := gTup K 2 (gCons (gName 9) (gCons (gName 7) gNil))) (tt := tYes) (te := tIf (tTest (tOp (rI0 fun i j => .bl (decide (j ≤ i))) (tVar 9) (tVar 4))) (tC .non) (tCB (rLs K) (tCons (tVar 7) tNil))) rfl sc_law_unlike.nd rfl rfl (sw_true rfl rfl rfl (by decide +kernel)) (pi_enum (by rfl) T.enumerate (pa_cons (pv 2) pa_nil)) (blkOk_by (N := N_law_unlike) (sc := defScope s_law_unlike) (by decide +kernel)) (fun _ _ _ _ _ => (pg_tup rfl (pgs_cons (pg_name (i := 9) sc_law_unlike.nd rfl (Or.inl rfl)) (pgs_cons (pg_name (i := 7) sc_law_unlike.nd rfl (Or.inl rfl)) pgs_nil)))) (fun _ _ _ _ _ => pts_nil) (fun _ _ _ _ _ => (pe_ifExp (pt_cmpR op_ge (pv 9) (pv 4) (nomark _)) pe_non (pe_callTy call_list_of (by rfl) T.list (by decide +kernel) (pa_cons (pv 7) pa_nil)))))
    (pss_one (ps_ret (pe_cmpR (op_eqD hu) (pe_lst (pa_cons (pe_call G_law_refused hr rfl d_law_refused.g d_law_refused.F.kp d_law_refused.b .nil pass0 (pa_cons (pv 1) (pa_cons (pv 8) pa_nil))) (pa_cons (pe_call G_law_refused hr rfl d_law_refused.g d_law_refused.F.kp d_law_refused.b .nil pass0 (pa_cons pe_bl (pa_cons (pv 8) pa_nil))) (pa_cons (pe_call G_law_refused hr rfl d_law_refused.g d_law_refused.F.kp d_law_refused.b .nil pass0 (pa_cons pe_int (pa_cons pe_non pa_nil))) pa_nil)))) (pe_lst (pa_cons (pe_op op_add pe_int (pv 4)) (pa_cons pe_int (pa_cons pe_int pa_nil)))) (nomark _)))))))))), ?_⟩
    have hpos := g.R.pos
    have hz := g.hz
    have h5 := g.A5
    have h0 := g.A0
    have hl1 : (ts.map fun t : Addr × List Int => V.ref t.1).length = ts.length := List.length_map ..
    refine ⟨_, rfl, _, rfl, a, _, rfl, .inl (SqL.of g.G.top), d, l, _, rfl, by rw [hl1]; omega, by rw [hl1]; omega, g.D, fun H1 at_ D1 S1 a0 a1 => ?_⟩
    rw [hl1] at a1
    obtain ⟨j, rfl⟩ : ∃ j : Nat, at_ = (j : Int) := ⟨at_.toNat, by omega⟩
    refine ⟨_, rfl, _, rfl, d, l, _, rfl, by omega, by omega, D1, fun H2 c_ D2 S2 c0 c1 => ⟨by show 2 ≤ sizeLine; decide, fun t0 ht0 => ?_⟩⟩
    obtain ⟨c, rfl⟩ : ∃ c : Nat, c_ = (c : Int) := ⟨c_.toNat, by omega⟩
    have g2 := ((g.go D1 S1).go D2 S2).new (o := HO.tup [V.int (j : Int), V.int (c : Int)]) ht0
    have S02 : SB d l H (upd H2 t0 (HO.tup [V.int (j : Int), V.int (c : Int)])) := (S1.trans S2).trans (SB.new ht0)
    have hj : j < ts.length := by omega
    have hc : c < A := by omega
    refine ⟨t0, _, rfl, SqT.of upd_same, rfl, _, _, rfl, _, _, rfl, rfl, ?_⟩
    refine ⟨_, rfl, a, rfl, ⟨_, SqL.of g2.G.top⟩, fun p hp => ?_⟩
    refine lcF (K := K) (j := 7) id hp g2.D g2.G g2.na g2.nt (by omega) (fun u hu H3 D3 S3 hrow Q3 kQ => ⟨_, rfl, u.1, _, rfl, .inl (SqL.of hrow), fun b hb => kQ b hb⟩) (fun os H3 eo N3 G3 D3 S3 => ?_)
    rw [List.map_id] at eo
    have g3 := g2.go D3 S3
    have S03 := S02.trans S3
    have hol : os.length = ts.length := by rw [← rsOf_len os, eo, rsOf_len]
    have hjo : j < os.length := by omega
    have ho : os[j]? = some os[j] := List.getElem?_eq_getElem hjo
    have hrj : (rsOf ts)[j]? = some os[j].2 := by rw [← eo]; exact rsOf_get ho
    obtain ⟨lo, ro⟩ := g.rows.row _ (mem_of_get hrj)
    have hcr : os[j].2[c]? = some (os[j].2.getD c 0) := by
      have hc' : c < os[j].2.length := by rw [lo]; exact hc
      rw [List.getElem?_eq_getElem hc', getD_of (List.getElem?_eq_getElem hc')]
    have hx := ro _ (mem_of_get hcr)
    rw [rsOf_len] at hx
    have hixo : atI (os.map fun t => V.ref t.1) (j : Int) = some (V.ref os[j].1) := atI_int a0 (by rw [List.getElem?_map, Int.toNat_natCast, ho] <;> rfl)
    have hixc : atI (os[j].2.map V.int) (c : Int) = some (V.int (os[j].2.getD c 0)) := atI_int c0 (by rw [List.getElem?_map, Int.toNat_natCast, hcr] <;> rfl)
    have hro := G3.row _ (mem_of_get ho)
    refine ⟨_, rfl, _, rfl, p, _, (j : Int), V.ref os[j].1, rfl, rfl, SqL.of G3.top, hixo, _, rfl, os[j].1, _, (c : Int), _, rfl, rfl, SqL.of hro, hixc, _, _, rfl, rfl, .inl ⟨_, rfl, _, rfl, a, _, rfl, .inl (SqL.of g3.G.top), _, _, rfl, rfl, by rw [hl1]; omega, ?_⟩⟩
    refine ⟨_, rfl, _, rfl, p, _, (j : Int), V.ref os[j].1, rfl, rfl, SqL.of G3.top, hixo, _, rfl, os[j].1, _, (c : Int), c, rfl, rfl, hro, ?_, ?_⟩
    · rw [List.length_map, lo]
      unfold ixN
      rw [if_pos c0, if_pos c1, Int.toNat_natCast]
    rw [hl1]
    obtain ⟨y, ey⟩ : ∃ y, y = (os[j].2.getD c 0 + 1) % (ts.length : Int) := ⟨_, rfl⟩
    have hyy : (fun i j : Int => V.int (i % j)) (os[j].2.getD c 0 + 1) (ts.length : Int) = V.int y := by rw [ey]
    rw [hyy]
    have ym : 0 ≤ y ∧ y < (ts.length : Int) := by
      rw [ey]
      exact ⟨Int.emod_nonneg _ (by omega), Int.emod_lt_of_pos _ (by omega)⟩
    have npo : p ≠ os[j].1 := fun e => by
      have h1 := G3.top
      rw [e, hro] at h1
      injection h1 with h2
      injection h2 with h3
      have h4 := congrArg (fun l => l[0]?) h3
      simp only [List.getElem?_map] at h4
      rw [List.getElem?_eq_getElem (show 0 < os.length by omega), List.getElem?_eq_getElem (show 0 < os[j].2.length by omega)] at h4
      cases h4
    obtain ⟨ps, eps⟩ : ∃ ps : List (Addr × List Int), ps = os.map fun t => (t.1, if t.1 = os[j].1 then os[j].2.set c y else t.2) := ⟨_, rfl⟩
    have hset : (os[j].2.map V.int).set c (V.int y) = (os[j].2.set c y).map V.int := by rw [List.map_set]
    have Gp : GridAt (upd H3 os[j].1 (.lst ((os[j].2.map V.int).set c (V.int y)))) p ps := by
      refine ⟨?_, fun t ht => ?_⟩
      · rw [upd_ne npo, G3.top, eps, List.map_map]
        rfl
      · rw [eps] at ht
        obtain ⟨u, hu, rfl⟩ := List.mem_map.mp ht
        by_cases e : u.1 = os[j].1
        · show upd H3 _ _ u.1 = _
          rw [if_pos e, e, upd_same, hset]
        · show upd H3 _ _ u.1 = _
          rw [if_neg e, upd_ne e]
          exact G3.row u hu
    have hpl : ps.length = ts.length := by rw [eps, List.length_map, hol]
    have rowO : ∀ u ∈ os, u.2.length = A ∧ ∀ z ∈ u.2, 0 ≤ z ∧ z < (ts.length : Int) := fun u hu => by
      have := g.rows.row u.2 (by rw [← eo]; exact List.mem_map.mpr ⟨u, hu, rfl⟩)
      rw [rsOf_len] at this
      exact this
    have Rp : Rs A (rsOf ps) := by
      refine ⟨by rw [rsOf_len, hpl]; exact hpos, fun r hr => ?_⟩
      obtain ⟨t, ht, rfl⟩ := List.mem_map.mp hr
      rw [eps] at ht
      obtain ⟨u, hu, rfl⟩ := List.mem_map.mp ht
      rw [rsOf_len, hpl]
      obtain ⟨q1, q2⟩ := rowO u hu
      by_cases e : u.1 = os[j].1
      · show (if u.1 = os[j].1 then os[j].2.set c y else u.2).length = A ∧ ∀ z ∈ (if u.1 = os[j].1 then os[j].2.set c y else u.2), _
        rw [if_pos e, List.length_set]
        refine ⟨lo, fun z hz => ?_⟩
        rcases List.mem_or_eq_of_mem_set hz with h | h
        · exact (rowO _ (mem_of_get ho)).2 z h
        · rw [h]
          exact ym
      · show (if u.1 = os[j].1 then os[j].2.set c y else u.2).length = A ∧ ∀ z ∈ (if u.1 = os[j].1 then os[j].2.set c y else u.2), _
        rw [if_neg e]
        exact ⟨q1, q2⟩
    have hbool : decide (rsOf us = rsOf ps) = decide (ts.length = 1) := by
      by_cases h1 : ts.length = 1
      · rw [decide_eq_true h1]
        refine decide_eq_true ?_
        rw [g.e, zero_rows g.rows (by rw [rsOf_len]; exact h1), zero_rows Rp (by rw [rsOf_len, hpl]; exact h1)]
      · rw [decide_eq_false h1]
        refine decide_eq_false fun e => ?_
        rw [g.e] at e
        have e1 : (rsOf ps)[j]? = some (os[j].2.set c y) := by
          unfold rsOf
          rw [eps, List.map_map, List.getElem?_map, ho]
          show some (if os[j].1 = os[j].1 then _ else _) = _
          rw [if_pos rfl]
        rw [← e, hrj] at e1
        have e2 : os[j].2[c]? = (os[j].2.set c y)[c]? := congrArg (fun l : List Int => l[c]?) (Option.some.inj e1)
        rw [hcr, List.getElem?_set_self (by rw [lo]; exact hc)] at e2
        have e3 := Option.some.inj e2
        by_cases q : os[j].2.getD c 0 + 1 < (ts.length : Int)
        · rw [Int.emod_eq_of_lt (by omega) q] at ey
          omega
        · have q2 : os[j].2.getD c 0 + 1 = (ts.length : Int) := by omega
          rw [q2, Int.emod_self] at ey
          omega
    have n1 : ∀ u ∈ os, H3 u.1 ≠ none := fun u hu e => by
      rw [G3.row u hu] at e
      cases e
    have nqo : ¬ dl d l os[j].1 := (D2.new (o := HO.tup [V.int (j : Int), V.int (c : Int)]) ht0).free (N3.row _ (mem_of_get ho))
    have S04 : SB d l H (upd H3 os[j].1 (.lst ((os[j].2.map V.int).set c (V.int y)))) := ((S03.kp).mut ((S02.kp).free ((D2.new (o := HO.tup [V.int (j : Int), V.int (c : Int)]) ht0).free (N3.row _ (mem_of_get ho))) (N3.row _ (mem_of_get ho)))).sb
    have D4 : DealAt (upd H3 os[j].1 (.lst ((os[j].2.map V.int).set c (V.int y)))) d l := D3.upd nqo
    have g4 := g.go D4 S04
    refine ⟨_, rfl, _, rfl, _, rfl, ?_⟩
    refine make_rows (CE := CE) g.A0 (by omega) Gp Rp (by omega) fun H5 m2 xs S5 hm M5 e5 => ?_
    have g5 := g4.same S5
    have S05 := S04.trans (KP.same S5).sb
    refine ⟨m, (A : Int), us, some ((A : Int), xs), rfl, g5.M, .mach M5, ?_⟩
    refine ⟨_, rfl, a, _, rfl, .inl (SqL.of g5.G.top), rfl, rfl, _, rfl, ?_⟩
    have hb1 : rowsEq (A : Int) us (some ((A : Int), xs)) = decide (ts.length = 1) := by
      show (decide ((A : Int) = (A : Int)) && decide (rsOf us = rsOf xs)) = _
      rw [decide_eq_true rfl, Bool.true_and, e5, hbool]
    have hb2 : decide (V.int ((ts.map fun t : Addr × List Int => V.ref t.1).length : Int) = V.int 1) = decide (ts.length = 1) := by
      rw [hl1]
      by_cases h1 : ts.length = 1
      · rw [decide_eq_true h1]
        exact decide_eq_true (by rw [h1] <;> rfl)
      · rw [decide_eq_false h1]
        refine decide_eq_false fun e => h1 ?_
        injection e with e
        omega
    have hb3 : (!decide (V.bl (if false = true then !rowsEq (A : Int) us (some ((A : Int), xs)) else rowsEq (A : Int) us (some ((A : Int), xs))) = V.bl (decide (V.int ((ts.map fun t : Addr × List Int => V.ref t.1).length : Int) = V.int 1)))) = false := by
      rw [if_neg (by decide), hb1, hb2]
      simp
    rw [hb3]
    refine iteF ?_
    -- the machine of the first command alone
    refine ⟨_, rfl, _, rfl, a, rfl, ⟨_, SqL.of g5.G.top⟩, fun p2 hp2 => ?_⟩
    refine lcF (K := K) (j := 7) (List.take 1) hp2 g5.D g5.G g5.na g5.nt (by omega) (fun u hu H6 D6 S6 hrow Q6 kQ => ⟨_, rfl, 1, rfl, u.1, _, rfl, SqL.of hrow, fun b hb => ?_⟩) (fun fs H6 ef N6 G6 D6 S6 => ?_)
    · have q := kQ b hb
      rw [List.map_take] at q
      rw [show cutV (u.2.map V.int) none (some 1) = (u.2.map V.int).take 1 from cut_to (n := 1) (by rw [List.length_map, (g5.R.row u hu).1]; omega)]
      exact q
    have g6 := g5.go D6 S6
    have S06 := S05.trans S6
    have Rf : Rs 1 (rsOf fs) := by
      refine ⟨by rw [ef, List.length_map, rsOf_len]; exact hpos, fun r hr => ?_⟩
      rw [ef] at hr
      obtain ⟨r0, hr0, rfl⟩ := List.mem_map.mp hr
      obtain ⟨q1, q2⟩ := g.rows.row r0 hr0
      refine ⟨by rw [List.length_take, q1]; omega, fun z hz => ?_⟩
      rw [ef, List.length_map]
      exact q2 z (List.mem_of_mem_take hz)
    have hfl : fs.length = ts.length := by rw [← rsOf_len fs, ef, List.length_map, rsOf_len]
    refine make_rows (CE := CE) (A := 1) (by decide) (by decide) G6 Rf (by omega) fun H7 m3 ys S7 hm3 M7 e7 => ?_
    have g7 := g6.same S7
    have S07 := S06.trans (KP.same S7).sb
    refine ⟨m, (A : Int), us, some (1, ys), rfl, g7.M, .mach M7, ?_⟩
    refine ⟨_, rfl, two_ways ?_ (fun hb r => ?_)⟩
    rotate_left
    · refine ⟨_, rfl, _, _, rfl, rfl, _, rfl, ?_⟩
      have hb' : (decide ((A : Int) = 1) && decide (rsOf us = rsOf ys)) = true := hb
      rw [Bool.and_eq_true] at hb'
      have hA1 := of_decide_eq_true hb'.1
      rw [decide_eq_false (show ¬ (1 : Int) < (A : Int) by omega)]
      exact iteF r
    -- the rows of which some are no rows
    refine ⟨_, rfl, a, _, rfl, SqL.of g7.G.top, fun p3 hp3 => ?_⟩
    refine lcE (K := K) (i := 9) (j := 7) (dl d l) (fun H => DealAt H d l) (fun k y H' => (j ≤ k → y = .non) ∧ (k < j → ∃ (q : Addr) (r : List Int), y = .ref q ∧ (H7 q = none ∧ q ≠ p3) ∧ H' q = some (.lst (r.map V.int)) ∧ (rsOf ts)[k]? = some r))
      hp3 (g7.D.free hp3) (by rw [hl1]; omega) g7.D (fun H p o n x => x.upd n) (fun H p x h => x.free h) (fun k y H H' kp ⟨f1, f2⟩ => ⟨f1, fun h => ?_⟩) (fun H kp => SqL.of (kp.get g7.na g7.G.top)) (fun _ _ => rfl) (fun k x H8 acc hk D8 kp8 hp8 Q8 kQ => ?_) (fun zs H8 hzl hzs hp8 D8 kp8 => ?_)
    · obtain ⟨q, r, e1, e2, e3, e4⟩ := f2 h
      exact ⟨q, r, e1, e2, kp.get (fun z => z.elim (g7.D.free e2.1) e2.2) e3, e4⟩
    · rw [List.getElem?_map] at hk
      obtain ⟨u, hu, rfl⟩ : ∃ u, ts[k]? = some u ∧ V.ref u.1 = x := by
        cases e : ts[k]? with
        | none => rw [e] at hk; cases hk
        | some u => rw [e] at hk; exact ⟨u, rfl, Option.some.inj hk⟩
      have hm := mem_of_get hu
      refine ⟨_, rfl, _, rfl, _, _, rfl, rfl, _, rfl, ite2 (fun hb => ?_) (fun hb => ?_)⟩
      · have hb' := of_decide_eq_true hb
        exact kQ _ _ D8 (KP.refl _ _) ⟨fun _ => rfl, fun h => by omega⟩
      · have hb' : ¬ (j : Int) ≤ (k : Int) := fun h => hb (decide_eq_true h)
        refine ⟨_, rfl, u.1, _, rfl, .inl (SqL.of (kp8.get (g7.nt u hm) (g7.G.row u hm))), fun b hb8 => ?_⟩
        refine kQ _ _ (D8.new hb8) (KP.new hb8) ⟨fun h => by omega, fun _ => ⟨b, u.2, rfl, ⟨kp8.free (D8.free hb8) hb8, fun e => ?_⟩, upd_same, rsOf_get hu⟩⟩
        rw [e, hp8] at hb8
        cases hb8
    · have g8 := g7.go D8 kp8.sb
      have S08 := S07.trans kp8.sb
      rw [hl1] at hzl
      obtain ⟨ds, eds⟩ : ∃ ds : List PyData, ds = (List.range ts.length).map fun k => if j ≤ k then PyData.none else lstP ((rsOf ts).getD k []) := ⟨_, rfl⟩
      have hdl : ds.length = ts.length := by rw [eds, List.length_map, List.length_range]
      have hdk : ∀ k, k < ts.length → ds[k]? = some (if j ≤ k then PyData.none else lstP ((rsOf ts).getD k [])) := fun k hk => by
        rw [eds, List.getElem?_map, List.getElem?_range hk] <;> rfl
      have Dds : Dv H8 (.ref p3) (.list ds) := by
        refine .lst hp8 (dvAll_of (by rw [hzl, hdl]) fun k y hy => ?_)
        have hk : k < ts.length := by rw [← hzl]; exact cases_list hy
        refine ⟨_, hdk k hk, ?_⟩
        obtain ⟨f1, f2⟩ := hzs k y hy
        by_cases h : j ≤ k
        · rw [if_pos h, f1 h]
          exact .non
        · rw [if_neg h]
          obtain ⟨q, r, rfl, _, e3, e4⟩ := f2 (by omega)
          rw [getD_of e4]
          exact .lst e3 (dvAll_ints _)
      have n1' : (itemsD (.list ds)).length ≤ 1000 := by
        show ds.length ≤ 1000
        omega
      have n2' : ∀ e ∈ itemsD (.list ds), (itemsD e).length ≤ 1000 := fun e he => by
        have he' : e ∈ ds := he
        rw [eds] at he'
        obtain ⟨k, hk, rfl⟩ := List.mem_map.mp he'
        by_cases h : j ≤ k
        · rw [if_pos h]
          decide
        · rw [if_neg h]
          have hk' := List.mem_range.mp hk
          have e4 : (rsOf ts)[k]? = some ((rsOf ts).getD k []) := by
            have hk2 : k < (rsOf ts).length := by rw [rsOf_len]; exact hk'
            rw [List.getElem?_eq_getElem hk2, getD_of (List.getElem?_eq_getElem hk2)]
          show (((rsOf ts).getD k []).map PyData.int).length ≤ 1000
          rw [List.length_map, (g.rows.row _ (mem_of_get e4)).1]
          omega
      have res1 : makeRes (.int (A : Int)) (.list ds) = some (2 + (j : Int)) := by
        rw [makeRes_int g.A0]
        refine stepsRes_first (e := .none) ?_ rfl fun e he => ?_
        · rw [hdk j hj, if_pos (Nat.le_refl _)]
        · obtain ⟨k, hk⟩ := List.getElem?_of_mem he
          have hkj : k < j := by
            have := cases_list hk
            rw [List.length_take] at this
            omega
          rw [List.getElem?_take, if_pos hkj, hdk k (by omega), if_neg (by omega)] at hk
          obtain rfl := Option.some.inj hk
          have e4 : (rsOf ts)[k]? = some ((rsOf ts).getD k []) := by
            have hk2 : k < (rsOf ts).length := by rw [rsOf_len]; omega
            rw [List.getElem?_eq_getElem hk2, getD_of (List.getElem?_eq_getElem hk2)]
          have := g.rows.row _ (mem_of_get e4)
          rw [rsOf_len] at this
          rw [hdl]
          exact isE_lst this
      refine ⟨_, rfl, _, rfl, .int (A : Int), .ref p3, .int (A : Int), .list ds, rfl, .int _, Dds, n1', n2', fun H9 S9 => ?_⟩
      rw [res1]
      refine ⟨_, rfl, .bl true, .ref p3, .bool true, .list ds, rfl, .bl true, Dds.same S9, n1', n2', fun H10 S10 => ?_⟩
      refine ⟨.int 0, .non, .int 0, .none, rfl, .int 0, .non, by decide, fun e he => (nomatch he), fun H11 S11 => ?_⟩
      refine ⟨by show 3 ≤ sizeLine; decide, fun q1 hq1 => ?_⟩
      refine ⟨_, rfl, _, _, rfl, rfl, by show 3 ≤ sizeLine; decide, fun q2 hq2 => ?_⟩
      refine ⟨_, _, Dp.lst (SqL.of (nk upd_same hq2)) (dpAll_ints [2 + (j : Int), 0, 0]), Dp.lst (SqL.of upd_same) (dpAll_ints [2 + (j : Int), 0, 0]), shaped_ints _, shaped_ints _, ?_⟩
      rw [show PyData.eqv (.list ([2 + (j : Int), 0, 0].map PyData.int)) (.list ([2 + (j : Int), 0, 0].map PyData.int)) = PyData.eqvAll ([2 + (j : Int), 0, 0].map PyData.int) ([2 + (j : Int), 0, 0].map PyData.int) from rfl, eqv_ints, decide_eq_true rfl]
      have Sf : Same H8 _ := ((S9.trans S10).trans S11).trans ((Same.new hq1).trans (Same.new (o := HO.lst [V.int (2 + (j : Int)), V.int 0, V.int 0]) hq2))
      exact k _ (D8.same Sf) (S08.trans (KP.same Sf).sb)
end
end Lk

set_option Elab.async false
set_option linter.all false
set_option maxRecDepth 100000
set_option maxHeartbeats 4000000
namespace Lk
open PySem L2
/-! ### what is shown by repr -/
structure Sh (d : PyData) : Prop where
  s : d.showable = true
  n : d.hasDict = false
  l : d.leavesShort 13 = true
  w : d.weight ≤ 1000000
  dp : d.depth ≤ 8
theorem Sh.size {d : PyData} (x : Sh d) : d.shown.length ≤ sizeLine := PyData.shown_fits (B := 13) (by decide) (by decide) x.l (Nat.le_trans x.w (by decide))
theorem weight_int {z : Int} (h : z.natAbs < 2 ^ 30) : (PyData.int z).weight ≤ 31 := by
  show (if z == 0 then 0 else z.natAbs.log2 + 1) ≤ 31
  by_cases h0 : (z == 0) = true
  · rw [if_pos h0]
    decide
  · rw [if_neg h0]
    have hz : z.natAbs ≠ 0 := by
      have : ¬ z = 0 := by simpa using h0
      omega
    have := (Nat.log2_lt hz).mpr h
    omega
theorem show_int {z : Int} (h : z.natAbs < 2 ^ 30) : (PyData.int z).showable = true ∧ (PyData.int z).leavesShort 13 = true := by
  refine ⟨decide_eq_true ?_, ?_⟩
  · by_cases hz : z.natAbs = 0
    · rw [hz]
      decide
    · exact Nat.lt_trans ((Nat.log2_lt hz).mpr h) (by decide)
  · exact decide_eq_true (PyData.shown_int_le (Nat.lt_trans h (by decide)))
theorem sh_int {z : Int} (h : z.natAbs < 2 ^ 30) : Sh (.int z) := ⟨(show_int h).1, rfl, (show_int h).2, Nat.le_trans (weight_int h) (by decide), by show 0 ≤ 8; decide⟩
theorem show_ints : ∀ {r : List Int}, (∀ z ∈ r, z.natAbs < 2 ^ 30) → PyData.showableAll (r.map PyData.int) = true ∧ PyData.hasDictAll (r.map PyData.int) = false ∧ PyData.leavesShortAll 13 (r.map PyData.int) = true ∧ PyData.weightAll (r.map PyData.int) ≤ 32 * r.length
  | [], _ => ⟨rfl, rfl, rfl, Nat.le_refl _⟩
  | z :: r, h => by
    obtain ⟨h1, h2, h3, h4⟩ := show_ints fun y hy => h y (List.mem_cons_of_mem _ hy)
    obtain ⟨i1, i2⟩ := show_int (h z List.mem_cons_self)
    have i3 := weight_int (h z List.mem_cons_self)
    refine ⟨?_, ?_, ?_, ?_⟩
    · show ((PyData.int z).showable && PyData.showableAll (r.map PyData.int)) = true
      rw [i1, h1] <;> rfl
    · show (false || PyData.hasDictAll (r.map PyData.int)) = false
      rw [h2] <;> rfl
    · show ((PyData.int z).leavesShort 13 && PyData.leavesShortAll 13 (r.map PyData.int)) = true
      rw [i2, h3] <;> rfl
    · show (PyData.int z).weight + 1 + PyData.weightAll (r.map PyData.int) ≤ 32 * (r.length + 1)
      omega
theorem sh_row {r : List Int} (h : ∀ z ∈ r, z.natAbs < 2 ^ 30) (hl : r.length ≤ 10000) : Sh (rowP r) := by
  obtain ⟨h1, h2, h3, h4⟩ := show_ints h
  refine ⟨h1, h2, h3, Nat.le_trans h4 (by omega), ?_⟩
  have e : (rowP r).depth = PyData.depthAll (r.map PyData.int) + 1 := rfl
  have := depth_ints r
  omega
theorem show_rows {m : Nat} : ∀ {rs : List (List Int)}, (∀ r ∈ rs, r.length ≤ m ∧ ∀ z ∈ r, z.natAbs < 2 ^ 30) → PyData.showableAll (rs.map rowP) = true ∧ PyData.hasDictAll (rs.map rowP) = false ∧ PyData.leavesShortAll 13 (rs.map rowP) = true ∧ PyData.weightAll (rs.map rowP) ≤ (32 * m + 1) * rs.length
  | [], _ => ⟨rfl, rfl, rfl, Nat.zero_le _⟩
  | r :: rs, h => by
    obtain ⟨h1, h2, h3, h4⟩ := show_rows fun y hy => h y (List.mem_cons_of_mem _ hy)
    obtain ⟨hl, hz⟩ := h r List.mem_cons_self
    obtain ⟨i1, i2, i3, i4⟩ := show_ints hz
    refine ⟨?_, ?_, ?_, ?_⟩
    · show (PyData.showableAll (r.map PyData.int) && PyData.showableAll (rs.map rowP)) = true
      rw [i1, h1] <;> rfl
    · show (PyData.hasDictAll (r.map PyData.int) || PyData.hasDictAll (rs.map rowP)) = false
      rw [i2, h2] <;> rfl
    · show (PyData.leavesShortAll 13 (r.map PyData.int) && PyData.leavesShortAll 13 (rs.map rowP)) = true
      rw [i3, h3] <;> rfl
    · show PyData.weightAll (r.map PyData.int) + 1 + PyData.weightAll (rs.map rowP) ≤ (32 * m + 1) * (rs.length + 1)
      have : 32 * r.length ≤ 32 * m := Nat.mul_le_mul_left _ hl
      rw [Nat.mul_add]
      omega
/-- a machine's fields, as they are told -/
def machP (A n : Int) (rs : List (List Int)) : PyData := .tuple [.int A, .int n, .tuple (rs.map rowP)]
theorem sh_mach {A n : Int} {rs : List (List Int)} (hA : A.natAbs < 2 ^ 30) (hn : n.natAbs < 2 ^ 30) (h : ∀ r ∈ rs, r.length ≤ 5 ∧ ∀ z ∈ r, z.natAbs < 2 ^ 30) (hl : rs.length ≤ 1000) : Sh (machP A n rs) := by
  obtain ⟨h1, h2, h3, h4⟩ := show_rows h
  obtain ⟨a1, a2⟩ := show_int hA
  obtain ⟨b1, b2⟩ := show_int hn
  have a3 := weight_int hA
  have b3 := weight_int hn
  refine ⟨?_, ?_, ?_, ?_, ?_⟩
  · show ((PyData.int A).showable && ((PyData.int n).showable && (PyData.showableAll (rs.map rowP) && true))) = true
    rw [a1, b1, h1] <;> rfl
  · show (false || (false || (PyData.hasDictAll (rs.map rowP) || false))) = false
    rw [h2] <;> rfl
  · show ((PyData.int A).leavesShort 13 && ((PyData.int n).leavesShort 13 && (PyData.leavesShortAll 13 (rs.map rowP) && true))) = true
    rw [a2, b2, h3] <;> rfl
  · show (PyData.int A).weight + 1 + ((PyData.int n).weight + 1 + (PyData.weightAll (rs.map rowP) + 1 + 0)) ≤ 1000000
    omega
  · have e : (machP A n rs).depth = max 0 (max 0 (max (PyData.depthAll (rs.map rowP) + 1) 0)) + 1 := rfl
    have := depth_rows rs
    omega
/-- repr of an int, or of lists and tuples -/
def rRepr (K : PySem.W.Frag) : List V → Hp → VK → Prop := fun xs H Q => ∃ (x : V) (d : PyData), xs = [x] ∧ Dp K H x d ∧ ((∃ i, x = .int i) ∨ ∃ a, x = .ref a) ∧ Sh d ∧ Q (.str d.shown) H
theorem call_repr {X : Cx} (hg : X.A.guards = some []) (hu : X.A.units + 16 < cLine) : CallR X (.builtin "repr") (rRepr X.K) := by
  intro pins s σ H xs us Q I r h
  obtain ⟨x, d, rfl, D, hk, sh, q⟩ := h
  obtain ⟨u, rfl, ru⟩ := Vals.one r
  rcases hk with ⟨i, rfl⟩ | ⟨a, rfl⟩
  · cases D
    obtain ⟨t, rfl⟩ := ru
    exact PySem.P.repr_of_int (of_decide_eq_true sh.s) ⟨.str _, H, I.tok _, ⟨_, rfl⟩, q⟩
  · obtain rfl : u = Value.ref a := ru
    obtain ⟨as, rd⟩ := Dp.reads I d _ _ D rfl
    refine PySem.repr_of_reads' rd sh.s (fun h' => by rw [sh.n] at h'; cases h') hg (by have := sh.dp; omega) (fun b o e => e) (fun h' w tk hk => ⟨.str d.shown, H, ?_, ⟨_, rfl⟩, q⟩) sh.size
    exact I.kept (t' := tk) hk
end Lk

set_option Elab.async false
set_option linter.all false
set_option maxRecDepth 100000
set_option maxHeartbeats 4000000
namespace Lk
open PySem PySem.Spec PyProof.Rows L2
/-! ### defs that run where no repr is under way -/
structure FnG (P : Program) (w : World) (K : PySem.W.Frag) (mg : Str → Option Value) (base : Heap) (k : Nat) (f : Addr) (fd : FuncData) (ps : List Str) (sp : Sp) : Prop where
  len : ∀ vs H Q E, sp vs H Q E → vs.length = ps.length
  run : ∀ (A : Around) (outer : List Env) (s : Shared) (H : Hp) (args : Args) (us : List Value) (vs : List V) (Q : VK) (E : XK), A.guards = some [] → Room k A → Env0 P w K mg base A outer s H → BindsTo s fd args (ps.zip us) → Vals vs us → sp vs H Q E →
    codeAny (model P w) A (.call (.ref f) args) (CR CX0 outer P w H s Q E) s
section
variable {P : Program} {w : World} {K : PySem.W.Frag} {mg : Str → Option Value} {base : Heap}
theorem Fun.okG {x qual : Str} {st : Stmt} {f : Addr} {fd : FuncData} {N ps : List Str} {k : Nat} {sp : Sp} (F : Fun K x qual st f fd) (S : FnScope N ps (defScope st)) (len : ∀ vs H Q E, sp vs H Q E → vs.length = ps.length)
    (body : ∀ (cdv : Value) (A : Around) (outer : List Env) (s : Shared) (H : Hp) (vs : List V) (Q : VK) (E : XK), A.guards = some [] → Room k (A.deeper (envOfC qual (defScope st) s.heap.objs.size f cdv)) → sp vs H Q E →
      ∃ t, PSs (cxOf CX0 P w K mg base N qual (defScope st) f cdv A outer s H E).nox (defBody st) t ∧ t { nx := fun _ H' => Q .non H', rt := Q } (start N vs) H) : FnG P w K mg base (k + 1) f fd ps sp := by
  obtain ⟨oc, od, kV, doc, pm, an, cdv, ct, osl, rfl, lk, hcd⟩ := F.ex
  refine ⟨len, fun A outer s H args us vs Q E hg hr e0 hb r h => ?_⟩
  have keep : ∀ b o, base.get? b = some o → s.heap.get? b = some o := fun b o e => (e0.bs b o e).1
  have kx := e0.mod.kin.keeps keep
  have kinds : ∀ q ∈ ps.zip us, (defScope st).names.lookup q.1 = some .local ∨ ((defScope st).names.lookup q.1 = some .cell ∧ ((cellsFrom (s.heap.objs.size + 1) (defScope st).names []).lookup q.1).isSome = true) := fun q hq => by
    rcases S.par q.1 (List.of_mem_zip hq).1 with z | z
    · exact .inl z
    · exact .inr ⟨z, PySem.W.cellsFrom_some _ _ _ (.inl z)⟩
  refine codeAny_call_function hr.depth (kx _ _ lk) rfl S.co S.gen rfl (PySem.W.codeRec_of kx hcd) (hb _ _ _ _ (wpAny_newFunctionEnv_cells S.kind kinds fun env he s1 z => ?_))
  subst he
  refine ⟨(e0.mod.nolimit.keeps keep).keeps z.toInCall.keep, codeAny_func ?_⟩
  obtain ⟨t, ht, q⟩ := body cdv A outer s H vs Q E hg (hr.deeper _) h
  have I := inv_start (CX := CX0) (E := E) (mg := mg) (f := f) (cd := cdv) (qual := qual) S hr.hd e0 (len _ _ _ _ h) r z
  refine wpAny_mono (ht.nox.run [] s1 (start N vs) H _ I q) (fun fl s2 hs => ?_) fun e s2 hs => hs
  match fl, hs with
  | .ret u, ⟨v, σ2, H2, J, rv, k⟩ => exact ⟨v, H2, J.os, J.bare, J.base, J.hok, rv, k⟩
  | .next, ⟨σ2, H2, J, k⟩ => exact ⟨.non, H2, J.os, J.bare, J.base, J.hok, rfl, k⟩
  | .brk, ⟨_, _, _, k⟩ => exact k.elim
  | .cont, ⟨_, _, _, k⟩ => exact k.elim
end
section
variable {X : Cx} {k : Nat} {f : Addr} {fd : FuncData} {ps : List Str} {sp : Sp} {x : Str} {p pos : Pos} {e : Expr} {es : List Expr} {t : TA}
theorem pe_callG (G : FnG X.prog X.w X.K X.mg X.base k f fd ps sp) (quiet : X.A.guards = some []) (room : Room k X.A) (gx : Gl X x) (mx : X.mg x = some (.ref f)) (kp : PySem.W.keepIn X.K (.ref f) = true) (bd : Binds X.K fd ps []) (args : PA X (e :: es) t)
    (h1 : (x == ("__debug__" : Str)) = false := by decide) (h2 : starEach (e :: es) X.env = (false, eval e X.env) :: starEach es X.env := by rfl) (h3 : (backTo pos (starEach es X.env)).any (·.1) = false := by rfl) :
    PE X (.Call (.Name x p) (e :: es) [] pos) (tCall sp [] E0 t) := by
  refine ⟨fun pins s σ H Q I h => wpAny_Call_Name_kw (ld_glob I gx mx (PySem.W.callWith_K (h₀ := X.base) I.ok.mod.kin kp (thn (args.run pos pins s σ H _ I h) fun us s1 ⟨vs, H1, I1, r, q⟩ => ⟨I1.kIn, ?_⟩) h2 h3) h1)⟩
  have q : sp (vs ++ []) H1 Q E0 := q
  rw [List.append_nil] at q
  have hl : us.length = ps.length := by rw [← r.length]; exact G.len _ _ _ _ q
  have b := bd s1 us I1.kIn (by rw [List.append_nil]; exact hl)
  rw [List.append_nil] at b
  refine wpAny_call (codeAny_mono (G.run X.A X.stack s1 H1 ⟨us, []⟩ us vs Q E0 quiet room I1.env0 b r q) fun z s2 q2 => ?_)
  match z, q2 with
  | .error e, q2 => exact q2.elim
  | .ok (.ret u), q2 => exact I1.after q2
  | .ok .next, q2 => exact q2.elim
  | .ok .brk, q2 => exact q2.elim
  | .ok .cont, q2 => exact q2.elim
end
end Lk

set_option Elab.async false
set_option linter.all false
set_option maxRecDepth 100000
set_option maxHeartbeats 4000000
/-! the law's end, for a law that runs where no repr is under way -/
namespace Lk
open PySem PySem.Spec PyProof.Rows L2
section
variable {P : Program} {w : World} {K : PySem.W.Frag} {mg mb : Str → Option Value} {k : Nat} {fa a : Addr} {fd : FuncData} {x : Str} {sp : Sp} {s : Shared} {vs : List Value} {ns : List Int}
/-- what the law's call leaves -/
abbrev Fine (s : Shared) (r : Result) (s' : Shared) : Prop := r = .ok (.ret (.bool true)) ∧ OldK s.heap s'.heap ∧ s'.os = s.os ∧ AllBare s'.gens
/-- H: what is told of the heap, the script alone or nothing -/
theorem core_G {H : Hp} (kx : K.In s.heap) (gl : s.heap.Ns mainGlobals mg) (bl : s.heap.Ns builtinsNs mb) (bb : ∀ y : Str, y ≠ "__name__" → mb y = bootBuiltins y) (lim : s.heap.NoLimit) (gens : s.gens = #[]) (obj : s.heap.get? a = some { cls := .type "list", data := .seq vs.toArray }) (room : Room k callerA)
    (F : ∀ base : Heap, K.In base → base.Ns mainGlobals mg → FnG P w K mg base k fa fd [x] sp) (bind : ∀ (s : Shared) (u : Value), BindsTo s fd ⟨[u], []⟩ [(x, u)]) (at_a : ∀ b u, H b = some u → b = a ∧ ∃ o ys, u = .frz o (.lst ys)) (ok : HOk P w H s.heap) (un : H a ≠ none → K.lookup a = none)
    (h : sp [.ref a] H (fun v _ => v = .bl true) fun _ _ _ => False) : codeAny (model P w) callerA (.call (.ref fa) ⟨[.ref a], []⟩) (Fine s) s := by
  have other : ∀ b, b ≠ a → H b = none := fun b n => by
    cases q : H b with
    | none => rfl
    | some u => exact absurd (at_a b u q).1 n
  have stays : ∀ {b : Addr} {m : Str → Option Value}, s.heap.Ns b m → (hidT s.heap H).Ns b m := fun {b m} ⟨o, es, ep, e, d, r⟩ => by
    refine ⟨o, es, ep, hidT_get e (other b fun z => ?_), d, r⟩
    subst z
    rw [obj] at e
    cases e
    cases (show Data.seq vs.toArray _ = Data.dict es ep from d)
  have kin : K.In (hidT s.heap H) := fun b o e => hidT_get (kx b o e) (by
    cases q : H b with
    | none => rfl
    | some u =>
      have z := (at_a b u q).1
      subst z
      rw [un (by rw [q]; simp)] at e
      cases e)
  obtain ⟨mc, l1, l2⟩ := lim
  have e0 : Env0 P w K mg (hidT s.heap H) callerA [] s H := ⟨rfl, ⟨kin, stays gl, ⟨mb, stays bl, bb⟩, ⟨mc, stays l1, l2⟩⟩, fun b o e => of_hidT e, Nat.le_of_eq (hidT_size _ _), trivial, (fun b hb => by cases (show b ∈ ([] : List Addr) from hb)), ok, .of_eq gens⟩
  refine codeAny_mono ((F _ kin (stays gl)).run callerA [] s H ⟨[.ref a], []⟩ [.ref a] [.ref a] _ _ rfl room e0 (bind s (.ref a)) (.cons rfl .nil) h) fun r s2 q => ?_
  match r, q with
  | .error e, q => exact q.elim
  | .ok .next, q => exact q.elim
  | .ok .brk, q => exact q.elim
  | .ok .cont, q => exact q.elim
  | .ok (.ret u), ⟨v, H2, os, bare, ub, ok2, rv, ev⟩ =>
    have ev' : v = .bl true := ev
    subst ev'
    obtain rfl : u = Value.bool true := rv
    refine ⟨rfl, OldK.of_keep fun b o e => ?_, os, bare⟩
    cases q : H b with
    | none => exact ub.keep b o e q (by simp [frs]) (by simp)
    | some t =>
      obtain ⟨_, ob, ys, rfl⟩ := at_a b t q
      have f1 := ok b _ q
      have f2 := ok2 b _ (ub.frzs b ob _ q)
      obtain ⟨g1, _⟩ := f1
      obtain ⟨g2, _⟩ := f2
      rw [e] at g1
      cases g1
      exact g2
theorem law_callG (kx : K.In s.heap) (gl : s.heap.Ns mainGlobals mg) (bl : s.heap.Ns builtinsNs mb) (bb : ∀ y : Str, y ≠ "__name__" → mb y = bootBuiltins y) (lim : s.heap.NoLimit) (gens : s.gens = #[]) (obj : s.heap.get? a = some { cls := .type "list", data := .seq vs.toArray }) (its : IntsAre vs ns) (len : ns.length ≤ sizeLine) (room : Room k callerA)
    (F : ∀ base : Heap, K.In base → base.Ns mainGlobals mg → FnG P w K mg base k fa fd [x] sp) (bind : ∀ (s : Shared) (u : Value), BindsTo s fd ⟨[u], []⟩ [(x, u)])
    (h : ∀ H : Hp, SqL K H a (ns.map V.int) → sp [.ref a] H (fun v _ => v = .bl true) fun _ _ _ => False) : codeAny (model P w) callerA (.call (.ref fa) ⟨[.ref a], []⟩) (Fine s) s := by
  cases q : K.lookup a with
  | some o =>
    have e := kx a o q
    rw [obj] at e
    cases e
    exact core_G (H := fun _ => none) kx gl bl bb lim gens obj room F bind (fun _ _ z => by cases z) (fun _ _ z => by cases (show (none : Option HO) = some _ from z)) (fun z => absurd rfl z) (h _ (.inr ⟨_, vs.toArray, _, q, rfl, rfl, rfl, by rw [List.size_toArray, its.length]; exact len, by simpa using vals_ints its⟩))
  | none =>
    refine core_G (H := fun b => if b = a then some (.frz { cls := .type "list", data := .seq vs.toArray } (.lst (ns.map V.int))) else none) kx gl bl bb lim gens obj room F bind (fun b u z => ?_) (fun b u z => ?_) (fun _ => q) (h _ (.inl (.inr ⟨_, if_pos rfl⟩)))
    · by_cases hb : b = a
      · exact ⟨hb, _, _, (Option.some.inj ((if_pos hb).symm.trans z)).symm⟩
      · cases (if_neg hb).symm.trans z
    · by_cases hb : b = a
      · cases (if_pos hb).symm.trans z
        subst hb
        exact ⟨obj, by rw [List.length_map]; exact len, vs, _, vals_ints its, obj⟩
      · cases (if_neg hb).symm.trans z
end
theorem walk_G {l : PySem.W.OpenLaw} {n k : Nat} {q : Program} {loose : List Str} {XP : (Str → Option Value) → Heap → Prop} {YP : World → Heap → Prop} {d : DefRec} {K : Params → PySem.W.Frag} {sp : World → Sp} {x : Str} (hn : l.most = some n) (hn2 : n ≤ sizeLine) (hdf : d.params.defaults = []) (room : Room k callerA)
    (inn : ∀ (w : World) (h : Heap), YP w h → (K w.params).In h)
    (F : ∀ (w : World) (mg : Str → Option Value) (fa : Addr) (h : Heap), (K w.params).In h → h.Ns mainGlobals mg → mg d.name = some (.ref fa) → ∃ fd : FuncData, (∀ (s : Shared) (u : Value), BindsTo s fd ⟨[u], []⟩ [(x, u)]) ∧ ∀ base : Heap, (K w.params).In base → base.Ns mainGlobals mg → FnG l.prog w (K w.params) mg base k fa fd [x] (sp w))
    (h : ∀ (w : World) (H : Hp) (a : Addr) (ns : List Int), ns.length ≤ n → SqL (K w.params) H a (ns.map V.int) → sp w [.ref a] H (fun v _ => v = .bl true) fun _ _ _ => False) : PySem.W.WalkO q loose XP YP l.row.toRowW d [] (fun f vs => PySem.call f vs) := by
  refine Att.attach_call hn hdf fun w s0 s1 mg mb fa o pm cd doc a vs ns G Y ho hd hcd hmg obj its len gens => ?_
  obtain ⟨fd, b, f⟩ := F w mg fa _ (inn w _ Y) G.T.g hmg
  exact law_callG (inn w _ Y) G.T.g G.T.b G.T.builtins G.T.nolimit gens obj its (Nat.le_trans len hn2) room f b fun H hS => h w H a ns len hS
end Lk

set_option Elab.async false
set_option linter.all false
set_option maxRecDepth 100000
set_option maxHeartbeats 4000000
namespace Lk
open PySem L2
abbrev s_law_beside : Stmt := top 42
abbrev N_law_beside : List Str := ["_law_deal", "_law_commands", "_law_steps", "_law_machine_here", "_law_other", "_law_second", "_law_wrong_here", "_law_due", "_law_one", "_law_at", "_law_s", "_law_two", "_law_told", "_law_row_here"]
abbrev P_law_beside : List Str := ["_law_deal", "_law_commands", "_law_steps", "_law_machine_here"]
theorem sc_law_beside : FnScope N_law_beside P_law_beside (defScope s_law_beside) := ⟨rfl, rfl, rfl, by decide +kernel, rfl, by decide +kernel, by decide +kernel⟩
theorem bG'_len (rs2 rs : List (List Int)) : (bG' rs2 rs).length = rs.length * rs2.length := by
  unfold bG'
  rw [List.length_flatMap]
  simp only [List.length_map]
  rw [List.map_const', List.sum_replicate_nat]
theorem GridAt.app {H : Hp} {p q b : Addr} {xs ys : List (Addr × List Int)} (x : GridAt H p xs) (y : GridAt H q ys) (h : H b = none) : GridAt (upd H b (.lst ((xs.map fun t => V.ref t.1) ++ ys.map fun t => V.ref t.1))) b (xs ++ ys) :=
  ⟨by rw [upd_same, List.map_append], fun t ht => (List.mem_append.mp ht).elim (fun z => nk (x.row t z) h) fun z => nk (y.row t z) h⟩
theorem out_never {P : Program} {w : World} {X : Cx} : ∀ σ, PassesAt (L2.CX P w) X σ ((fun _ => E0) σ) := fun _ _ _ _ _ _ _ ⟨_, _, _, _, _, _, _, _, _, _, _, _, he⟩ => he.elim
theorem Game.mok {CM : Addr} {H : Hp} {d l a m : Addr} {A : Nat} {ts us : List (Addr × List Int)} (g : Game CM H d l a m A ts us) : MOk (A : Int) us := by
  have h5 := g.A5
  have h0 := g.A0
  have e : us.length = ts.length := by rw [← rsOf_len us, g.e, rsOf_len]
  have hz := g.hz
  exact ⟨by omega, by omega, by omega, by rw [Int.toNat_natCast, g.e]; exact g.rows⟩
section
variable {P : Program} {w : World} {K : PySem.W.Frag} {mg : Str → Option Value} {base : Heap} {CM CE CR fI fE fR : Addr} {fdI fdE : FuncData}
theorem ok_law_beside {f fM fb : Addr} {fd fdM fdb : FuncData} (A0 : Df K mg "_law_beside" s_law_beside f fd P_law_beside) (d_law_machine : Df K mg "_law_machine" s_law_machine fM fdM P_law_machine) (GM : FnOk P w K mg base CX0 4 fM fdM P_law_machine spMachine) (d_beside : Df K mg "beside" s_beside fb fdb P_beside)
    (k_beside : KBn K fdb P_beside 0 ["other", "one"] (fun us ws => us ++ ws.reverse) kRev) (GB : FnOk P w K mg base (L2.CX P w) 9 fb fdb P_beside (spBeside CM CR))
    (MC : McT K mg CM fI fdI) (GI : FnOk P w K mg base (L2.CX P w) 7 fI fdI P_Machine___init (spInit CM CE)) (TC : TxC K CM) (TR : PySem.ErrX.ErrTxt K mg "Refused" "Refused.__init__" CR fR) (T : Txt mg) : FnG P w K mg base 10 f fd P_law_beside (spUnlike CM) := by
  refine Fun.okG A0.F sc_law_beside (fun vs H Q E h => ?_) (fun cdv Ar outer s H vs Q E quiet hr h => ?_)
  · obtain ⟨d, l, a, m, A, ts, us, rfl, _⟩ := h
    rfl
  · obtain ⟨d, l, a, m, A, ts, us, rfl, g, k⟩ := h
    have hu : Ar.units + 3 + 16 < cLine := by have := hr.un; simp only [Around.deeper] at this; omega
    have hq : Ar.guards = some [] := quiet
    refine ⟨_, (pss_cons (ps_set (i := 4) sc_law_beside.nd rfl (Or.inr rfl) (pe_call GM (hr.mono (by decide)) rfl d_law_machine.g d_law_machine.F.kp d_law_machine.b .nil pass0 (pa_cons (pv 0) (pa_cons pe_int pa_nil))))
    (pss_cons (ps_set (i := 5) sc_law_beside.nd rfl (Or.inl rfl) (pe_make MC.mM GI (hr.mono (by decide)) rfl MC.g MC.b .nil (pass_never (P := P) (w := w)) (pa_cons (pe_ix ix_tup (pv 4) pe_int (fun _ _ => rfl)) (pa_cons (pe_ix ix_tup (pv 4) pe_int (fun _ _ => rfl)) pa_nil))))
    (pss_cons (ps_if (pt_cmpR op_ne (pe_ix ix_tup (pv 4) pe_int (fun _ _ => rfl)) (pv 1) (nomark _)) (pss_one (ps_try_as (i := 6) (tb := fun W => tSeq (tRet (tOp (fun x y H Q => y = .non ∧ Q (.bl (decide (x = .non))) H) (tCallS (spBeside CM CR) (WE W) (tCons (tVar 3) (tCons (tVar 5) tNil))) (tC .non))) tNext) (ts := fun a cls d => tSeq (tRet (tOp rEq (tByLow CR a cls d (tVar 6)) (tC (.int 0)))) tNext) (Wout := fun _ _ _ _ => False) rfl rfl sc_law_beside.nd rfl rfl ⟨rfl, by decide, Or.inl TR.gC⟩ takes0
        (fun W pn xe tk _ => pss_one (ps_ret (pe_cmpR op_isN (by exact (pe_callS GB hr rfl d_beside.g d_beside.F.kp d_beside.b (fun σ => passAt tk σ) (by exact (pa_cons (pv 3) (pa_cons (pv 5) pa_nil))))) pe_non (nomark _))))
        (fun a oe cls d pn hz hf => pss_one (ps_ret (pe_cmpR op_eq (pe_byLow TR hz hf (pv 6)) pe_int (nomark _)))))) pss_nil)
    (pss_cons (ps_set (i := 7) sc_law_beside.nd rfl (Or.inl rfl) (pe_lst pa_nil))
    (pss_cons (ps_for PassesOwn.never rfl (pi_list (pv 2)) (pg_name (i := 8) sc_law_beside.nd rfl (Or.inr rfl))
      (pss_one (ps_set (i := 7) sc_law_beside.nd rfl (Or.inl rfl) (pe_op op_cat (pv 7) (pe_lc (own := [("_law_two", 11)]) (g := gName 11) (tt := tYes)
        (te := tLc (iEnum K (tCons (tVar 8) tNil)) (gTup K 2 (gCons (gName 9) (gCons (gName 10) gNil))) tYes (tOp (rI0 fun i j => .int (i + j)) (tOp (rI CMul fun i j => .int (i * j)) (tVar 10) (tCB (rLn K) (tCons (tOp (rIxT K) (tVar 4) (tC (.int 1))) tNil))) (tOp (rIxL K) (tVar 11) (tVar 9))) [9, 10])
        rfl sc_law_beside.nd (pi_list (pe_ix ix_tup (pv 4) pe_int (fun _ _ => rfl))) (blkOk_by (N := N_law_beside) (sc := defScope s_law_beside) (by decide +kernel)) (fun _ _ _ _ _ => (pg_name (i := 11) sc_law_beside.nd rfl (Or.inr rfl))) (fun _ _ _ _ _ => pts_nil)
        (fun _ _ _ _ _ => (pe_lc (own := [("_law_at", 9), ("_law_s", 10)]) (wi := iEnum K (tCons (tVar 8) tNil)) (g := gTup K 2 (gCons (gName 9) (gCons (gName 10) gNil))) (tt := tYes) (te := tOp (rI0 fun i j => .int (i + j)) (tOp (rI CMul fun i j => .int (i * j)) (tVar 10) (tCB (rLn K) (tCons (tOp (rIxT K) (tVar 4) (tC (.int 1))) tNil))) (tOp (rIxL K) (tVar 11) (tVar 9)))
          rfl sc_law_beside.nd (pi_enum (by rfl) T.enumerate (pa_cons (pv 8) pa_nil)) (blkOk_by (N := N_law_beside) (sc := { kind := .function, names := [(".0", .local), ("_law_two", .cell), ("enumerate", .globalImplicit), ("_law_one", .cell), ("_law_other", .cell)], isGenerator := false, isCoroutine := false }) (by decide +kernel)) (fun _ _ _ _ _ => (pg_tup rfl (pgs_cons (pg_name (i := 9) sc_law_beside.nd rfl (Or.inl rfl)) (pgs_cons (pg_name (i := 10) sc_law_beside.nd rfl (Or.inl rfl)) pgs_nil)))) (fun _ _ _ _ _ => pts_nil)
          (fun _ _ _ _ _ => (pe_op op_add (pe_op op_mul (pv 10) (pe_callB call_len_seq (by rfl) T.len PySem.boot_len (pa_cons (pe_ix ix_tup (pv 4) pe_int (fun _ _ => rfl)) pa_nil))) (pe_ix ix_list (pv 11) (pv 9) (fun _ _ => rfl)))))))))))
    (pss_cons (ps_set (i := 12) sc_law_beside.nd rfl (Or.inl rfl) (pe_kw (ks := ["other", "one"]) GB hr rfl d_beside.g d_beside.F.kp k_beside (out_never (P := P) (w := w)) (pk_cons (pv 5) (pk_cons (pv 3) pk_nil))))
    (pss_one (ps_ret (pe_cmpR op_eq (pe_callB (call_repr hq hu) (by rfl) T.repr (by decide +kernel) (pa_cons (pe_tup (pa_cons (pe_fld (pv 12) rfl) (pa_cons (pe_fld (pv 12) rfl) (pa_cons (pe_fld (pv 12) rfl) pa_nil)))) pa_nil))
      (pe_callB (call_repr hq hu) (by rfl) T.repr (by decide +kernel) (pa_cons (pe_tup (pa_cons (pv 1) (pa_cons (pe_callB call_len_seq (by rfl) T.len PySem.boot_len (pa_cons (pv 7) pa_nil)) (pa_cons (pe_tupleOf (by rfl) T.tuple (pe_lc (own := [("_law_row_here", 13)]) (g := gName 13) (tt := tYes) (te := tThen (tVar 13) (kTup K)) rfl sc_law_beside.nd (pi_list (pv 7)) (blkOk_by (N := N_law_beside) (sc := defScope s_law_beside) (by decide +kernel)) (fun _ _ _ _ _ => (pg_name (i := 13) sc_law_beside.nd rfl (Or.inl rfl))) (fun _ _ _ _ _ => pts_nil) (fun _ _ _ _ _ => (pe_tupleOf (by rfl) T.tuple (pv 13))))) pa_nil)))) pa_nil)) (nomark _)))))))))), ?_⟩
    have hpos := g.R.pos
    have hz := g.hz
    have h5 := g.A5
    have h0 := g.A0
    refine ⟨_, rfl, d, l, 3, rfl, by decide, by decide, g.D, fun H1 t p B ts2 D1 S1 t0 ht N1 G1 B0 B3 hm2 R1 => ?_⟩
    have g1 := g.go D1 S1
    have np : ¬ dl d l p := g.D.free N1.top
    have nt2 : ∀ u ∈ ts2, ¬ dl d l u.1 := fun u hu' => g.D.free (N1.row u hu')
    have ntt : ¬ dl d l t := g.D.free t0
    have hp2 := R1.pos
    refine ⟨_, rfl, t, _, 0, V.int (B : Int), rfl, rfl, SqT.of ht, rfl, _, rfl, t, _, 1, V.ref p, rfl, rfl, SqT.of ht, rfl, ?_⟩
    refine make_rows (CE := CE) B0 (by omega) G1 R1.rs (by omega) fun H2 m2 ws S2 hm M2 e2 => ?_
    have g2 := g1.same S2
    have G2 := G1.same S2
    have ht2 := S2 _ _ ht
    have S02 : SB d l H H2 := S1.trans (KP.same S2).sb
    have hwl : ws.length = ts2.length := by rw [← rsOf_len ws, e2, rsOf_len]
    have hul : us.length = ts.length := by rw [← rsOf_len us, g.e, rsOf_len]
    have mok2 : MOk (B : Int) ws := ⟨by omega, by omega, by omega, by rw [Int.toNat_natCast, e2]; exact R1.rs⟩
    have hprod : us.length * ws.length ≤ 1000 := by
      rw [hul, hwl]
      exact Nat.le_trans (Nat.mul_le_mul hz (show ts2.length ≤ 3 by omega)) (by decide)
    refine ⟨_, rfl, t, _, 0, V.int (B : Int), rfl, rfl, SqT.of ht2, rfl, _, rfl, rfl, _, rfl, ?_⟩
    by_cases hBA : B = A
    · rw [decide_eq_true (show V.int (B : Int) = V.int (A : Int) by rw [hBA])]
      subst hBA
      refine iteF ⟨Nat.zero_le _, fun q0 hq0 => ?_⟩
      have nq0 : ¬ dl d l q0 := g2.D.free hq0
      have hl2 : (ts2.map fun u : Addr × List Int => V.ref u.1).length = ts2.length := List.length_map ..
      refine ⟨_, rfl, a, rfl, ⟨_, SqL.of (g2.new hq0).G.top⟩, for_list (K := K) (a := a) (xs := ts.map fun u => V.ref u.1) (fun i σ H3 => ∃ (q : Addr) (xs : List (Addr × List Int)) (v8 : Option V), σ = [some (.ref d), some (.int (B : Int)), some (.ref a), some (.ref m), some (.ref t), some (.ref m2), none, some (.ref q), v8, none, none, none, none, none] ∧
        DealAt H3 d l ∧ SB d l H2 H3 ∧ GridAt H3 q xs ∧ ¬ dl d l q ∧ (∀ x ∈ xs, ¬ dl d l x.1) ∧ rsOf xs = bG' (rsOf ts2) ((rsOf ts).take i)) ⟨q0, [], none, rfl, g2.D.new hq0, SB.new hq0, ⟨upd_same, fun x hx => by cases hx⟩, nq0, (fun x hx => by cases hx), by rw [List.take_zero] <;> rfl⟩
        (fun i σ H3 _ ⟨_, _, _, _, D3, S3, _⟩ => SqL.of (g2.go D3 S3).G.top) ?_ ?_⟩
      · rintro i y σ H3 hi ⟨q, xs, v8, rfl, D3, S3, G3, nq, nxs, e3⟩
        rw [List.getElem?_map] at hi
        obtain ⟨o, ho, rfl⟩ : ∃ u, ts[i]? = some u ∧ V.ref u.1 = y := by
          cases e : ts[i]? with
          | none => rw [e] at hi; cases hi
          | some u => rw [e] at hi; exact ⟨u, rfl, Option.some.inj hi⟩
        obtain ⟨lo, ro⟩ := g.R.row o (mem_of_get ho)
        have g3 := g2.go D3 S3
        have G23 := G2.kp S3.kp np nt2
        have ht3 := S3.kp.get ntt ht2
        refine ⟨_, rfl, _, rfl, t, _, 1, V.ref p, rfl, rfl, SqT.of ht3, rfl, p, rfl, ⟨_, SqL.of G23.top⟩, fun D hD => ?_⟩
        refine lcGL (K := K) (a := p) (xs := ts2.map fun u => V.ref u.1) (fun i r => ∃ w, ts2[i]? = some w ∧ r = bR (rsOf ts2) o.2 w.2) hD D3 (by rw [hl2]; omega) (fun H4 S4 => SqL.of (S4.kp.get np G23.top)) (fun j x H4 hj D4 S4 Q4 kQ4 => ?_) (fun us3 H5 hl5 hz5 N5 G5 D5 S5 => ?_)
        · rw [List.getElem?_map] at hj
          obtain ⟨w2, hw2, rfl⟩ : ∃ u, ts2[j]? = some u ∧ V.ref u.1 = x := by
            cases e : ts2[j]? with
            | none => rw [e] at hj; cases hj
            | some u => rw [e] at hj; exact ⟨u, rfl, Option.some.inj hj⟩
          obtain ⟨lw, rw2⟩ := R1.row w2 (mem_of_get hw2)
          have g4 := g3.go D4 S4
          have G24 := G23.kp S4.kp np nt2
          have ht4 := S4.kp.get ntt ht3
          refine ⟨_, rfl, o.1, _, rfl, SqL.of (g4.G.row o (mem_of_get ho)), fun D2 hD2 => ?_⟩
          refine lcE (K := K) (i := 9) (j := 10) (dl d l) (fun H => DealAt H d l) (fun k y _ => ∃ z : Int, y = V.int z ∧ ∃ s u, o.2[k]? = some s ∧ w2.2[k]? = some u ∧ z = s * ((rsOf ts2).length : Int) + u) hD2 (D4.free hD2) (by rw [List.length_map]; omega) D4 (fun H p o n x => x.upd n) (fun H p x h => x.free h) (fun _ _ _ _ _ x => x) (fun H kp => SqL.of (kp.get (g4.nt o (mem_of_get ho)) (g4.G.row o (mem_of_get ho)))) (fun _ _ => rfl)
            (fun k' x H6 acc hk D6 kp6 _ Q6 kQ6 => ?_) (fun ys H6 hyl hys hD6 D6 kp6 => ?_)
          · rw [List.getElem?_map] at hk
            obtain ⟨sv, hs, rfl⟩ : ∃ u, o.2[k']? = some u ∧ V.int u = x := by
              cases e : o.2[k']? with
              | none => rw [e] at hk; cases hk
              | some u => rw [e] at hk; exact ⟨u, rfl, Option.some.inj hk⟩
            have hk' : k' < w2.2.length := by rw [lw, ← lo]; exact cases_list hs
            have hw := List.getElem?_eq_getElem hk'
            have ht6 := kp6.get ntt ht4
            have G26 := G24.kp kp6 np nt2
            refine ⟨_, rfl, _, rfl, t, _, 1, V.ref p, rfl, rfl, SqT.of ht6, rfl, p, _, rfl, .inl (SqL.of G26.top), _, _, rfl, rfl, .inr ⟨by rw [hl2]; omega, by rw [hl2]; omega⟩, _, rfl, _, rfl, w2.1, _, (k' : Int), V.int w2.2[k'], rfl, rfl, SqL.of (G26.row w2 (mem_of_get hw2)), atI_int (by omega) (by rw [List.getElem?_map, Int.toNat_natCast, hw] <;> rfl), _, _, rfl, rfl, ?_⟩
            exact kQ6 _ _ D6 (KP.refl _ _) ⟨_, rfl, sv, _, hs, hw, by rw [hl2, rsOf_len]⟩
          · obtain ⟨zs, rfl, hzs⟩ := collect (g := V.int) hys
            rw [List.length_map, List.length_map] at hyl
            refine kQ4 D2 zs H6 D6 kp6.sb hD2 hD6 ⟨w2, hw2, ?_⟩
            refine List.ext_getElem? fun k' => ?_
            unfold bR
            rw [List.getElem?_zipWith]
            cases hk : zs[k']? with
            | none =>
              have q1 : zs.length ≤ k' := List.getElem?_eq_none_iff.mp hk
              rw [List.getElem?_eq_none_iff.mpr (show o.2.length ≤ k' by omega)]
            | some z =>
              obtain ⟨s', u', h1, h2, rfl⟩ := hzs k' z hk
              rw [h1, h2]
        · rw [hl2] at hl5
          have e5 := rows_of (F := bR (rsOf ts2) o.2) hl5 hz5
          have G35 := G3.kp S5.kp nq nxs
          refine ⟨q, D, _, _, rfl, rfl, G35.top, G5.top, ?_, fun q' hq' => ?_⟩
          · have h1 := congrArg List.length e3
            rw [rsOf_len, bG'_len, List.length_take, rsOf_len, rsOf_len] at h1
            have h3 : min i ts.length * ts2.length ≤ 100 * 3 := Nat.mul_le_mul (by omega) (by omega)
            rw [List.length_map, List.length_map, hl5]
            exact Nat.le_trans (show xs.length + ts2.length ≤ 1000 by omega) (by decide)
          · refine ⟨q', xs ++ us3, _, rfl, D5.new hq', (S3.trans S5).trans (SB.new hq'), G35.app G5 hq', D5.free hq', fun x hx => (List.mem_append.mp hx).elim (nxs x) fun z => D3.free (N5.row x z), ?_⟩
            show List.map _ _ = _
            rw [List.map_append, take_next (rsOf_get ho)]
            unfold bG'
            rw [List.flatMap_append, List.flatMap_singleton]
            show rsOf xs ++ rsOf us3 = _
            rw [e3, e5]
            rfl
      · rintro σ H3 ⟨q, xs, v8, rfl, D3, S3, G3, nq, nxs, e3⟩
        rw [List.length_map, ← rsOf_len ts, List.take_length] at e3
        have g3 := g2.go D3 S3
        have M3 := M2.nl (NL.of_sb S3 g2.D)
        have S03 := S02.trans S3
        refine ⟨_, rfl, _, rfl, rfl, m, m2, (B : Int), (B : Int), us, ws, rfl, g3.M, g3.mok, M3, mok2, hprod, fun hne => absurd rfl hne, fun _ H6 m6 x6 S6 hm6 M6 e6 => ?_⟩
        have g6 := g3.same S6
        have G6 := G3.same S6
        have e6' : rsOf x6 = rsOf xs := by rw [e6, e3, g.e, e2] <;> rfl
        have hxl : x6.length = xs.length := by rw [← rsOf_len x6, e6', rsOf_len]
        have RR2 : Rs B (rsOf ts2) := R1.rs
        obtain ⟨hbl, hbR⟩ := Rs.beside g.rows RR2
        have hbx : rsOf xs = bG (rsOf ts) (rsOf ts2) := e3
        have hl : xs.length ≤ 300 := by
          rw [← rsOf_len xs, hbx, hbl, rsOf_len, rsOf_len]
          exact Nat.le_trans (Nat.mul_le_mul hz (show ts2.length ≤ 3 by omega)) (by decide)
        have shr : ∀ r ∈ rsOf xs, r.length ≤ 5 ∧ ∀ z ∈ r, z.natAbs < 2 ^ 30 := fun r hr => by
          rw [hbx] at hr
          obtain ⟨q1, q2⟩ := hbR.row r hr
          rw [← hbx, rsOf_len] at q2
          exact ⟨by omega, fun z hz' => by
            have := q2 z hz'
            omega⟩
        have sh : Sh (machP (B : Int) (xs.length : Int) (rsOf xs)) := sh_mach (by omega) (by omega) shr (by rw [rsOf_len]; omega)
        obtain ⟨dx6, t6, c1, c2, c3⟩ := id M6
        refine ⟨_, rfl, m6, CM, dx6, _, _, rfl, c1, TC.cl, TC.n1, fld_c _ _ _, _, rfl, m6, CM, dx6, _, _, rfl, c1, TC.cl, TC.n2, fld_n _ _ _, _, rfl, m6, CM, dx6, _, _, rfl, c1, TC.cl, TC.n3, fld_s _ _ _, by show 3 ≤ sizeLine; decide, fun p1 hp1 => ?_⟩
        refine ⟨.ref p1, machP (B : Int) (xs.length : Int) (rsOf xs), rfl, .tup (SqT.of upd_same) (.cons (.int _) (.cons (by rw [hxl]; exact .int _) (.cons (.tup (SqT.of (nk c2 hp1)) (by rw [← e6']; exact dp_rows fun u hu' => nk (c3 u hu') hp1)) .nil))), .inr ⟨_, rfl⟩, sh, ?_⟩
        have g7 := g6.new (o := HO.tup [V.int (B : Int), V.int (x6.length : Int), V.ref t6]) hp1
        have G7 := G6.new (o := HO.tup [V.int (B : Int), V.int (x6.length : Int), V.ref t6]) hp1
        refine ⟨_, rfl, _, rfl, q, _, rfl, .inl (SqL.of G7.top), _, rfl, q, rfl, ⟨_, SqL.of G7.top⟩, fun D hD => ?_⟩
        refine lcFT (K := K) (j := 13) hD g7.D G7 nq nxs (by omega) (fun u hu' H8 D8 S8 hrow Q8 kQ8 => ⟨_, rfl, .inl ⟨u.1, _, rfl, SqL.of hrow, fun b hb => kQ8 b hb⟩⟩) (fun vs8 H8 e8 hD8 hrows hne D8 S8 => ?_)
        refine .inl ⟨D, _, rfl, SqL.of hD8, fun p2 hp2 => ⟨by show 3 ≤ sizeLine; decide, fun p3 hp3 => ?_⟩⟩
        have sh2 : machP (B : Int) (xs.length : Int) (rsOf xs) = machP (B : Int) ((xs.map fun t : Addr × List Int => V.ref t.1).length : Int) (rsOf vs8) := by rw [e8, List.length_map]
        refine ⟨.ref p3, machP (B : Int) (xs.length : Int) (rsOf xs), rfl, ?_, .inr ⟨_, rfl⟩, sh, rfl, ?_⟩
        · rw [sh2]
          exact .tup (SqT.of upd_same) (.cons (.int _) (.cons (.int _) (.cons (.tup (SqT.of (nk upd_same hp3)) (dp_rows fun u hu' => nk (nk (hrows u hu') hp2) hp3)) .nil)))
        · rw [decide_eq_true rfl]
          have Sf := (Same.new (o := HO.tup (vs8.map fun u => V.ref u.1)) hp2).trans (Same.new (o := HO.tup [V.int (B : Int), V.int ((xs.map fun t : Addr × List Int => V.ref t.1).length : Int), V.ref p2]) hp3)
          exact k _ (D8.same Sf) ((((S03.trans (KP.same S6).sb).trans (SB.new hp1)).trans S8).trans (KP.same Sf).sb)
    · rw [decide_eq_false (show ¬ V.int (B : Int) = V.int (A : Int) from fun e => hBA (by injection e with e; omega))]
      refine iteT ⟨_, rfl, _, rfl, m, m2, (A : Int), (B : Int), us, ws, rfl, g2.M, g2.mok, M2, mok2, hprod, fun hne H' q S' hq' => ?_, fun e => absurd (by omega) hBA⟩
      refine ⟨true, TR.te, fun _ a0 ha0 => ⟨_, rfl, rfl, rfl, q, .int 0, rfl, upd_same, rfl, ?_⟩, fun e => by cases e⟩
      rw [decide_eq_true (show V.int 0 = V.int 0 from rfl)]
      have Sf := S'.trans (Same.new (o := HO.xd [(("at" : Str), V.int 0)]) hq')
      exact k _ (g2.same Sf).D (S02.trans (KP.same Sf).sb)
end
end Lk

set_option Elab.async false
set_option linter.all false
set_option maxRecDepth 100000
set_option maxHeartbeats 8000000
namespace Lk
open PySem L2
abbrev s_law : Stmt := top 43
abbrev N_law : List Str := ["_law_script", "_law_deal", "_law_commands", "_law_steps", "_law_given", "_law_row_here", "_law_made", "_law_rows", "_law_long", "_law_state", "_law_told", "_law_due", "_law_times", "_law_place", "_law_bad", "_law_strange", "_law_wrong_commands", "_law_wrong_steps", "_law_number", "_law_one"]
abbrev P_law : List Str := ["_law_script"]
theorem sc_law : FnScope N_law P_law (defScope s_law) := ⟨rfl, rfl, rfl, by decide +kernel, rfl, by decide +kernel, by decide +kernel⟩
theorem joinName {te : TE} {g : TG} {rest : TS} {D : Ends} {i : Nat} {v : V} {σ : St} {H : Hp} {f : St → Hp → Prop} (e : f = tSeq (tAsg te g) rest D) (R : V → Hp → Prop) (h : ∀ Q' : VK, (∀ v H', R v H' → Q' v H') → te (σ.set i (some v)) H Q') (k : ∀ u H', R u H' → g u (σ.set i (some v)) H' (rest D)) : gName i v σ H f := by
  subst e
  exact h _ k
theorem joinNx {te : TE} {g : TG} {rest : TS} {D : Ends} {σ : St} {H : Hp} {f : St → Hp → Prop} (e : f = tSeq (tAsg te g) rest D) (R : V → Hp → Prop) (h : ∀ Q' : VK, (∀ v H', R v H' → Q' v H') → te σ H Q') (k : ∀ u H', R u H' → g u σ H' (rest D)) : f σ H := by
  subst e
  exact h _ k
theorem joinIf {c : TT} {t rest : TS} {D : Ends} {σ : St} {H : Hp} {f : St → Hp → Prop} (e : f = tSeq (tIfS c t tNext) rest D) (R : Hp → Prop) (h : ∀ Q' : Bool → Hp → Prop, (∀ H', R H' → Q' false H') → c σ H Q') (k : ∀ H', R H' → rest D σ H') : f σ H := by
  subst e
  exact h _ fun H' r => iteF (k H' r)
theorem joinNameIf {c : TT} {t rest : TS} {D : Ends} {i : Nat} {v : V} {σ : St} {H : Hp} {f : St → Hp → Prop} (e : f = tSeq (tIfS c t tNext) rest D) (R : Hp → Prop) (h : ∀ Q' : Bool → Hp → Prop, (∀ H', R H' → Q' false H') → c (σ.set i (some v)) H Q') (k : ∀ H', R H' → rest D (σ.set i (some v)) H') : gName i v σ H f := by
  subst e
  exact h _ fun H' r => iteF (k H' r)
/-- a machine of rows in tuples is made -/
theorem make_rowsT {CM CE : Addr} {H1 : Hp} {q : Addr} {A : Nat} {vs : List (Addr × List Int)} {Q : Addr → Hp → Prop} {E : XK} (hA : 0 < A) (h5 : A ≤ 1000) (hq : H1 q = some (.tup (vs.map fun u => V.ref u.1))) (rows : ∀ u ∈ vs, H1 u.1 = some (.tup (u.2.map V.int))) (R : Rs A (rsOf vs)) (hz : vs.length ≤ 1000)
    (h : ∀ H' m us, Same H1 H' → H1 m = none → MachAt CM H' m (A : Int) us → rsOf us = rsOf vs → Q m H') :
    ∀ x0 dx, H1 x0 = none → H1 dx = none → dx ≠ x0 → spInit CM CE (.ref x0 :: ([.int (A : Int), .ref q] ++ [])) (upd (upd H1 dx (.own x0)) x0 (.ins CM dx [])) (fun v H2 => v = .non ∧ Q x0 H2) E := by
  refine make_any (dc := .int (A : Int)) (ds := .tuple ((rsOf vs).map rowP)) (.int _) (.tup hq (dv_rowsT rows)) ?_ (fun e he => ?_) ?_
  · show ((rsOf vs).map rowP).length ≤ 1000
    rw [List.length_map, rsOf_len]
    exact hz
  · obtain ⟨r, hr, rfl⟩ := List.mem_map.mp he
    show (r.map PyData.int).length ≤ 1000
    rw [List.length_map, (R.row r hr).1]
    exact h5
  · have e : makeRes (.int (A : Int)) (.tuple ((rsOf vs).map rowP)) = none := by
      rw [makeRes_int hA]
      exact stepsRes_rows (A := A) (g := rowP) rfl rfl (fun n r h => isE_tup h) R
    rw [e]
    refine fun H' m us S hm M eR => h H' m us S hm M ?_
    rw [eR]
    exact map_rowD rowD_tup _
theorem Game.upd {CM : Addr} {H : Hp} {d l a m b : Addr} {A : Nat} {ts us : List (Addr × List Int)} {xs : List V} {o : HO} (g : Game CM H d l a m A ts us) (hb : H b = some (.lst xs)) (nb : ¬ dl d l b) (na : a ≠ b) (nt : ∀ t ∈ ts, t.1 ≠ b) : Game CM (L2.upd H b o) d l a m A ts us :=
  ⟨g.D.upd nb, ⟨(upd_ne na).trans g.G.top, fun t ht => (upd_ne (nt t ht)).trans (g.G.row t ht)⟩, g.na, g.nt, g.R, g.A0, g.A5, g.hz, g.M.nl (NL.upd hb), g.e⟩
theorem sb_upd {d l b : Addr} {H H' : Hp} {o : HO} (x : SB d l H H') (h : H b = none) : SB d l H (upd H' b o) := (x.kp.mut h).sb
/-- rows in tuples, in a tuple -/
structure Wh (H : Hp) (q : Addr) (vs : List (Addr × List Int)) : Prop where
  top : H q = some (.tup (vs.map fun u => V.ref u.1))
  row : ∀ u ∈ vs, H u.1 = some (.tup (u.2.map V.int))
theorem Wh.same {H H' : Hp} {q : Addr} {vs : List (Addr × List Int)} (x : Wh H q vs) (S : Same H H') : Wh H' q vs := ⟨S _ _ x.top, fun u hu => S _ _ (x.row u hu)⟩
/-- the game, with a row, and the row as it is told -/
structure Play (CM : Addr) (H : Hp) (d l a m : Addr) (A : Nat) (ts us : List (Addr × List Int)) (rq b : Addr) (ns : List Int) (dy : PyData) : Prop where
  g : Game CM H d l a m A ts us
  r : H rq = some (.tup (ns.map V.int))
  nr : ¬ dl d l rq
  nb : ¬ dl d l b
  t : (H b = some (.lst (ns.map V.int)) ∧ dy = .list (ns.map PyData.int)) ∨ (H b = some (.tup (ns.map V.int)) ∧ dy = .tuple (ns.map PyData.int))
section
variable {CM : Addr} {H H' : Hp} {d l a m rq b : Addr} {A : Nat} {ts us : List (Addr × List Int)} {ns : List Int} {dy : PyData}
theorem Play.go (x : Play CM H d l a m A ts us rq b ns dy) (D' : DealAt H' d l) (S : SB d l H H') : Play CM H' d l a m A ts us rq b ns dy :=
  ⟨x.g.go D' S, S.kp.get x.nr x.r, x.nr, x.nb, x.t.elim (fun z => .inl ⟨S.kp.get x.nb z.1, z.2⟩) fun z => .inr ⟨S.kp.get x.nb z.1, z.2⟩⟩
theorem Play.same (x : Play CM H d l a m A ts us rq b ns dy) (S : Same H H') : Play CM H' d l a m A ts us rq b ns dy := x.go (x.g.same S).D (KP.same S).sb
theorem Play.new {p : Addr} {o : HO} (x : Play CM H d l a m A ts us rq b ns dy) (h : H p = none) : Play CM (upd H p o) d l a m A ts us rq b ns dy := x.same (Same.new h)
theorem Play.dv (x : Play CM H d l a m A ts us rq b ns dy) : Dv H (.ref b) dy := by
  rcases x.t with ⟨h, rfl⟩ | ⟨h, rfl⟩
  · exact .lst h (dvAll_ints _)
  · exact .tup h (dvAll_ints _)
theorem Play.items (x : Play CM H d l a m A ts us rq b ns dy) : isS dy = true ∧ itemsD dy = ns.map PyData.int := by
  rcases x.t with ⟨h, rfl⟩ | ⟨h, rfl⟩
  · exact ⟨rfl, rfl⟩
  · exact ⟨rfl, rfl⟩
end
theorem badV_ok {A : Int} : ∀ {ns : List Int} {i : Nat}, (∀ z ∈ ns, 0 ≤ z ∧ z < A) → badV A (ns.map PyData.int) i = none
  | [], _, _ => rfl
  | z :: ns, i, h => by
    have q := h z List.mem_cons_self
    have e : isB A (.int z) = true := by
      show (decide (0 ≤ z) && decide (z < A)) = true
      rw [decide_eq_true q.1, decide_eq_true q.2] <;> rfl
    rw [List.map_cons, badV_cons, if_pos e]
    exact badV_ok fun y hy => h y (List.mem_cons_of_mem _ hy)
theorem dp_ref {K : PySem.W.Frag} {H : Hp} {v : V} {ds : List PyData} (h : Dp K H v (.tuple ds)) : ∃ a, v = .ref a := by
  cases h with
  | tup _ _ => exact ⟨_, rfl⟩
theorem dp_int {K : PySem.W.Frag} {H : Hp} {v : V} {i : Int} (h : Dp K H v (.int i)) : v = .int i := by
  cases h
  rfl
theorem powG_in {n : Nat} : ∀ {k t : Nat} {a b : List Int}, InR n a → InR n b → InR n (powG k t a b)
  | 0, _, _, _, _, hb => hb
  | k + 1, t, a, b, ha, hb => by
    unfold powG
    by_cases h : t = 0
    · rw [if_pos h]
      exact hb
    · rw [if_neg h]
      refine powG_in (ha.comp ha) ?_
      by_cases h2 : t % 2 = 1
      · rw [if_pos h2]
        exact hb.comp ha
      · rw [if_neg h2]
        exact hb
mutual
theorem dp_same {K : PySem.W.Frag} {H H' : Hp} (S : Same H H') : ∀ {v : V} {d : PyData}, Dp K H v d → Dp K H' v d
  | _, _, .non => .non
  | _, _, .bl b => .bl b
  | _, _, .int i => .int i
  | _, _, .str x => .str x
  | _, _, .lst h t => .lst (Same.seq S h) (dpAll_same S t)
  | _, _, .tup h t => .tup (sameT S h) (dpAll_same S t)
theorem dpAll_same {K : PySem.W.Frag} {H H' : Hp} (S : Same H H') : ∀ {vs : List V} {ds : List PyData}, DpAll K H vs ds → DpAll K H' vs ds
  | _, _, .nil => .nil
  | _, _, .cons h t => .cons (dp_same S h) (dpAll_same S t)
end
/-- what v is, whatever is drawn -/
def KDv (d l : Addr) (H : Hp) (v : V) (e : PyData) : Prop := ∀ H', SB d l H H' → Dv H' v e
theorem KDv.dv {d l : Addr} {H : Hp} {v : V} {e : PyData} (x : KDv d l H v e) : Dv H v e := x H (SB.refl d l H)
theorem KDv.go {d l : Addr} {H H1 : Hp} {v : V} {e : PyData} (x : KDv d l H v e) (S : SB d l H H1) : KDv d l H1 v e := fun H' S' => x H' (S.trans S')
theorem rSlA_ok {K : PySem.W.Frag} {H : Hp} {rq : Addr} {xs : List V} {lo hi : Option Int} {Q : VK} (h : SqT K H rq xs) (k : ∀ H' p, Same H H' → SqT K H' p (cutV xs lo hi) → Q (.ref p) H') : rSlA K (.ref rq) lo hi H Q := by
  refine ⟨rq, xs, rfl, h, fun e => k H rq (Same.refl _) ?_, fun _ p hp => k _ p (Same.new hp) (SqT.of upd_same)⟩
  have e2 : cutV xs lo hi = xs := by
    unfold cutV
    rw [e.1, e.2, List.drop_zero, Nat.sub_zero, List.take_length]
  rw [e2]
  exact h
theorem badV_at {A : Int} {e : PyData} (he : isB A e = false) : ∀ {ns : List Int} {post : List PyData} {i : Nat}, (∀ z ∈ ns, 0 ≤ z ∧ z < A) → badV A (ns.map PyData.int ++ e :: post) i = some (i + ns.length)
  | [], _, _, _ => by
    show badV A (e :: _) _ = _
    rw [badV_cons, if_neg (by rw [he]; decide)]
    rfl
  | z :: ns, post, i, h => by
    have q := h z List.mem_cons_self
    have e1 : isB A (.int z) = true := by
      show (decide (0 ≤ z) && decide (z < A)) = true
      rw [decide_eq_true q.1, decide_eq_true q.2] <;> rfl
    show badV A (.int z :: (ns.map PyData.int ++ e :: post)) i = _
    rw [badV_cons, if_pos e1, badV_at he fun x hx => h x (List.mem_cons_of_mem _ hx), List.length_cons]
    congr 1
    omega
theorem isB_self {n : Int} : isB n (.int n) = false := by
  show (decide (0 ≤ n) && decide (n < n)) = false
  rw [decide_eq_false (show ¬ n < n by omega), Bool.and_false]
theorem noPart {σ : St} {H : Hp} {Q : Option Int → Hp → Prop} (h : Q none H) : tNoPart σ H Q := h
theorem eqv_pair (s : Str) (i : Int) : PyData.eqv (.tuple [.str s, .int i]) (.tuple [.str s, .int i]) = true := by
  show ((s == s) && ((i == i) && true)) = true
  simp
theorem shaped_row (i : Int) : SeqAt.shaped (.tuple [.str "row", .int i]) = true := by
  have h1 : PyData.canLay0 (.tuple [.str "row", .int i]) = true := by
    show (PyData.canLay0 (.str "row") && (true && true)) = true
    rw [show PyData.canLay0 (.str "row") = true by decide +kernel] <;> rfl
  have h2 : PyData.depth (.tuple [.str "row", .int i]) ≤ 64 := by
    show max 0 (max 0 0) + 1 ≤ 64
    decide
  unfold SeqAt.shaped
  rw [h1, Bool.true_and]
  exact decide_eq_true h2
theorem shaped_ref (i : Int) : SeqAt.shaped (.tuple [.str "refused", .int i]) = true := by
  have h1 : PyData.canLay0 (.tuple [.str "refused", .int i]) = true := by
    show (PyData.canLay0 (.str "refused") && (true && true)) = true
    rw [show PyData.canLay0 (.str "refused") = true by decide +kernel] <;> rfl
  have h2 : PyData.depth (.tuple [.str "refused", .int i]) ≤ 64 := by
    show max 0 (max 0 0) + 1 ≤ 64
    decide
  unfold SeqAt.shaped
  rw [h1, Bool.true_and]
  exact decide_eq_true h2
theorem rowRes_no {A : Int} {e : PyData} (h : isS e = false) : rowRes A e = some 0 := by
  unfold rowRes
  rw [if_pos h]
theorem rows_ok {A : Nat} {os : List (Addr × List Int)} (x : Rs A (rsOf os)) : RowsOk A os := by
  refine ⟨by have := x.pos; rw [rsOf_len] at this; exact this, fun t ht => ?_⟩
  have := x.row t.2 (List.mem_map.mpr ⟨t, ht, rfl⟩)
  rw [rsOf_len] at this
  exact this

def spLaw (K : PySem.W.Frag) : Sp := fun vs H Q _ => ∃ (a : Addr) (ns : List Int), vs = [.ref a] ∧ SqL K H a (ns.map V.int) ∧ ns.length ≤ 63 ∧ ∀ H', Q (.bl true) H'
section
variable {P : Program} {w : World} {K : PySem.W.Frag} {mg : Str → Option Value} {base : Heap} {CM CE CR CW fI fE fR fW : Addr} {fdI fdE : FuncData}
theorem ok_law {f fdr fwi fan frow fef fle fpo fas fof fbe fun_ fpa fwr fre feo : Addr} {fd gdr gwi gan grow gef gle gpo gas gof gbe gun gpa gwr gre geo : FuncData} (A0 : Df K mg "law" s_law f fd P_law)
    (d_law_draw : Df K mg "_law_draw" s_law_draw fdr gdr P_law_draw) (d_law_wide : Df K mg "_law_wide" s_law_wide fwi gwi P_law_wide) (d_law_any : Df K mg "_law_any" s_law_any fan gan P_law_any) (d_law_row : Df K mg "_law_row" s_law_row frow grow P_law_row) (d_law_effect : Df K mg "_law_effect" s_law_effect fef gef P_law_effect)
    (d_law_led : Df K mg "_law_led" s_law_led fle gle P_law_led) (d_law_power : Df K mg "_law_power" s_law_power fpo gpo P_law_power) (d_law_asked : Df K mg "_law_asked" s_law_asked fas gas P_law_asked) (d_law_of : Df K mg "_law_of" s_law_of fof gof P_law_of) (d_law_beside : Df K mg "_law_beside" s_law_beside fbe gbe P_law_beside)
    (d_law_unlike : Df K mg "_law_unlike" s_law_unlike fun_ gun P_law_unlike) (d_law_power_at : Df K mg "_law_power_at" s_law_power_at fpa gpa P_law_power_at) (d_law_wrong : Df K mg "_law_wrong" s_law_wrong fwr gwr P_law_wrong) (d_law_refused : Df K mg "_law_refused" s_law_refused fre gre P_law_refused) (d_eop : Df K mg "effect_of_power" s_effect_of_power feo geo P_effect_of_power)
    (k_eop : KBn K geo P_effect_of_power 0 ["times", "row", "machine"] (fun us ws => us ++ ws.reverse) kRev)
    (G_law_wide : FnOk P w K mg base CX0 5 fwi gwi P_law_wide spWide) (G_law_asked : FnOk P w K mg base CX0 8 fas gas P_law_asked (spAsked K CM)) (G_law_beside : FnG P w K mg base 10 fbe gbe P_law_beside (spUnlike CM)) (G_law_unlike : FnOk P w K mg base CX0 10 fun_ gun P_law_unlike (spUnlike CM))
    (G_law_power_at : FnOk P w K mg base CX0 9 fpa gpa P_law_power_at (spPowerAt CM)) (G_law_refused : FnOk P w K mg base CX0 9 fre gre P_law_refused spRefused) (G_eop : FnOk P w K mg base (L2.CX P w) 8 feo geo P_effect_of_power (spEop CM CW))
    (MC : McT K mg CM fI fdI) (GI : FnOk P w K mg base (L2.CX P w) 7 fI fdI P_Machine___init (spInit CM CE)) (EQ : EqT P w K mg base CM fE fdE) (TC : TxC K CM) (T : Txt mg) : FnG P w K mg base 11 f fd P_law (spLaw K) := by
  have G_law_any : FnOk P w K mg base CX0 1 fan gan P_law_any spAny := ok_any d_law_any T
  have G_law_draw : FnOk P w K mg base CX0 1 fdr gdr P_law_draw (spDraw K) := ok_draw d_law_draw T
  have G_law_of : FnOk P w K mg base CX0 2 fof gof P_law_of spOf := ok_of d_law_of d_law_any T
  have G_law_row : FnOk P w K mg base CX0 2 frow grow P_law_row spRow := ok_row d_law_row d_law_any T
  have G_law_led : FnOk P w K mg base CX0 1 fle gle P_law_led (spLed K) := ok_led d_law_led T
  have G_law_effect : FnOk P w K mg base CX0 2 fef gef P_law_effect (spEffect K) := ok_effect d_law_effect d_law_led T
  have G_law_power : FnOk P w K mg base CX0 1 fpo gpo P_law_power (spPower K) := ok_power d_law_power T
  have G_law_wrong : FnOk P w K mg base CX0 3 fwr gwr P_law_wrong spWrong := ok_wrong d_law_wrong d_law_any d_law_of T
  refine Fun.okG A0.F sc_law (fun vs H Q E h => ?_) (fun cdv Ar outer s H vs Q E quiet hr h => ?_)
  · obtain ⟨a, ns, rfl, _⟩ := h
    rfl
  · obtain ⟨sa, sn, rfl, hsa, hsn, k⟩ := h
    have hu : Ar.units + 3 + 16 < cLine := by have := hr.un; simp only [Around.deeper] at this; omega
    have hu2 : Ar.units + 3 + 64 < cLine := by have := hr.un; simp only [Around.deeper] at this; omega
    have hq : Ar.guards = some [] := quiet
    refine ⟨_, (pss_cons (ps_set (i := 1) sc_law.nd rfl (Or.inl rfl) (pe_call G_law_draw (hr.mono (by decide)) rfl d_law_draw.g d_law_draw.F.kp d_law_draw.b .nil pass0 (pa_cons (pv 0) (pa_cons pe_int pa_nil))))
    (pss_cons (ps_asg (pe_call G_law_wide (hr.mono (by decide)) rfl d_law_wide.g d_law_wide.F.kp d_law_wide.b .nil pass0 (pa_cons (pv 1) (pa_cons pe_int pa_nil))) (pg_tup rfl (pgs_cons (pg_name (i := 2) sc_law.nd rfl (Or.inl rfl)) (pgs_cons (pg_name (i := 3) sc_law.nd rfl (Or.inl rfl)) pgs_nil))))
    (pss_cons (ps_setLc (i := 4) (own := [("_law_row_here", 5)]) (g := gName 5) (tt := tYes) (te := tCB (rLs K) (tCons (tVar 5) tNil)) rfl sc_law.nd rfl rfl (sw_true rfl rfl rfl (by decide +kernel)) (pi_list (pv 3)) (blkOk_by (N := N_law) (sc := defScope s_law) (by decide +kernel)) (fun _ _ _ _ _ => (pg_name (i := 5) sc_law.nd rfl (Or.inl rfl))) (fun _ _ _ _ _ => pts_nil) (fun _ _ _ _ _ => (pe_callTy call_list_of (by rfl) T.list (by decide +kernel) (pa_cons (pv 5) pa_nil))))
    (pss_cons (ps_set (i := 6) sc_law.nd rfl (Or.inl rfl) (pe_ifExp (pt_cmpR op_eq (pe_call G_law_any (hr.mono (by decide)) rfl d_law_any.g d_law_any.F.kp d_law_any.b .nil pass0 (pa_cons (pv 1) (pa_cons pe_int pa_nil))) pe_int (nomark _)) (pe_make MC.mM GI (hr.mono (by decide)) rfl MC.g MC.b .nil (pass_never (P := P) (w := w)) (pa_cons (pv 2) (pa_cons (pv 4) pa_nil))) (pe_mkKw (ks := ["steps", "commands"]) MC.mM GI (hr.mono (by decide)) rfl MC.g MC.k (out_never (P := P) (w := w)) (pk_cons (pe_tupleOf (by rfl) T.tuple (pe_lc (own := [("_law_row_here", 5)]) (g := gName 5) (tt := tYes) (te := tThen (tVar 5) (kTup K)) rfl sc_law.nd (pi_list (pv 4)) (blkOk_by (N := N_law) (sc := defScope s_law) (by decide +kernel)) (fun _ _ _ _ _ => (pg_name (i := 5) sc_law.nd rfl (Or.inl rfl))) (fun _ _ _ _ _ => pts_nil) (fun _ _ _ _ _ => (pe_tupleOf (by rfl) T.tuple (pv 5))))) (pk_cons (pv 2) pk_nil)))))
    (pss_cons (ps_asg pe_int (pg_sub (pe_ix ix_list (pv 4) pe_int (fun _ _ => rfl)) pe_int set_list))
    (pss_cons (ps_expr (pe_bm PySem.F.plainAttrs_list PySem.F.slot_list_append PySem.F.type_list_append mt_append (pv 4) (pa_cons (pe_lst pa_nil) pa_nil)))
    (pss_cons (ps_set (i := 7) sc_law.nd rfl (Or.inl rfl) (pe_tupleOf (by rfl) T.tuple (pe_lc (own := [("_law_row_here", 5)]) (g := gName 5) (tt := tYes) (te := tThen (tVar 5) (kTup K)) rfl sc_law.nd (pi_list (pv 3)) (blkOk_by (N := N_law) (sc := defScope s_law) (by decide +kernel)) (fun _ _ _ _ _ => (pg_name (i := 5) sc_law.nd rfl (Or.inl rfl))) (fun _ _ _ _ _ => pts_nil) (fun _ _ _ _ _ => (pe_tupleOf (by rfl) T.tuple (pv 5))))))
    (pss_cons (ps_if (PW.pt (pw_or (pt_cmpR op_ne (pe_callB (call_repr hq hu) (by rfl) T.repr (by decide +kernel) (pa_cons (pe_tup (pa_cons (pe_fld (pv 6) rfl) (pa_cons (pe_fld (pv 6) rfl) (pa_cons (pe_fld (pv 6) rfl) pa_nil)))) pa_nil)) (pe_callB (call_repr hq hu) (by rfl) T.repr (by decide +kernel) (pa_cons (pe_tup (pa_cons (pv 2) (pa_cons (pe_callB call_len_seq (by rfl) T.len PySem.boot_len (pa_cons (pv 3) pa_nil)) (pa_cons (pv 7) pa_nil)))) pa_nil)) (nomark _)) (pw_or1 (pt_cmpR (op_neM EQ.G EQ.b EQ.T (hr.mono (by decide))) (pv 6) (pe_make MC.mM GI (hr.mono (by decide)) rfl MC.g MC.b .nil (pass_never (P := P) (w := w)) (pa_cons (pv 2) (pa_cons (pv 7) pa_nil))) (nomark _))))) (pss_one (ps_ret pe_bl)) pss_nil)
    (pss_cons (ps_if (PW.pt (pw_or (pt_cmpR (op_eqM EQ.G EQ.b EQ.T (hr.mono (by decide))) (pv 6) (pe_tup (pa_cons (pv 2) (pa_cons (pv 7) pa_nil))) (nomark _)) (pw_or (pt_cmpR (op_eqM EQ.G EQ.b EQ.T (hr.mono (by decide))) (pv 6) pe_str (nomark _)) (pw_or1 (PW.pt (pw_and (pt_cmpR op_lt (pe_callB call_len_seq (by rfl) T.len PySem.boot_len (pa_cons (pv 7) pa_nil)) pe_int (nomark _)) (pw_and1 (pt_cmpR (op_eqM EQ.G EQ.b EQ.T (hr.mono (by decide))) (pv 6) (pe_make MC.mM GI (hr.mono (by decide)) rfl MC.g MC.b .nil (pass_never (P := P) (w := w)) (pa_cons (pv 2) (pa_cons (pe_op op_catT (pv 7) (pe_tup (pa_cons (pe_ix ix_tup (pv 7) pe_int (fun _ _ => rfl)) pa_nil))) pa_nil))) (nomark _))))))))) (pss_one (ps_ret pe_bl)) pss_nil)
    (pss_cons (ps_set (i := 8) sc_law.nd rfl (Or.inl rfl) (pe_ifExp (PW.pt (pw_or (pt_cmpR op_gt (pe_callB call_len_seq (by rfl) T.len PySem.boot_len (pa_cons (pv 3) pa_nil)) pe_int (nomark _)) (pw_or1 (pt_cmpR op_gt (pe_call G_law_any (hr.mono (by decide)) rfl d_law_any.g d_law_any.F.kp d_law_any.b .nil pass0 (pa_cons (pv 1) (pa_cons pe_int pa_nil))) pe_int (nomark _))))) (pe_call G_law_any (hr.mono (by decide)) rfl d_law_any.g d_law_any.F.kp d_law_any.b .nil pass0 (pa_cons (pv 1) (pa_cons pe_int pa_nil))) (pe_op op_add pe_int (pe_call G_law_any (hr.mono (by decide)) rfl d_law_any.g d_law_any.F.kp d_law_any.b .nil pass0 (pa_cons (pv 1) (pa_cons pe_int pa_nil))))))
    (pss_cons (ps_par (i := 5) (j := 9) rfl sc_law.nd rfl rfl (by decide) rfl rfl (pa_cons (pe_call G_law_row (hr.mono (by decide)) rfl d_law_row.g d_law_row.F.kp d_law_row.b .nil pass0 (pa_cons (pv 1) (pa_cons (pv 2) (pa_cons (pv 8) pa_nil)))) (pa_cons (pe_call G_law_any (hr.mono (by decide)) rfl d_law_any.g d_law_any.F.kp d_law_any.b .nil pass0 (pa_cons (pv 1) (pa_cons (pe_callB call_len_seq (by rfl) T.len PySem.boot_len (pa_cons (pv 3) pa_nil)) pa_nil))) pa_nil)) rfl)
    (pss_cons (ps_set (i := 10) sc_law.nd rfl (Or.inl rfl) (pe_ifExp (pt_cmpR op_eq (pe_call G_law_any (hr.mono (by decide)) rfl d_law_any.g d_law_any.F.kp d_law_any.b .nil pass0 (pa_cons (pv 1) (pa_cons pe_int pa_nil))) pe_int (nomark _)) (pe_callTy call_list_of (by rfl) T.list (by decide +kernel) (pa_cons (pv 5) pa_nil)) (pv 5)))
    (pss_cons (ps_set (i := 11) sc_law.nd rfl (Or.inl rfl) (pe_call G_law_effect (hr.mono (by decide)) rfl d_law_effect.g d_law_effect.F.kp d_law_effect.b .nil pass0 (pa_cons (pv 3) (pa_cons (pv 5) pa_nil))))
    (pss_cons (ps_if (PW.pt (pw_or (pt_cmpR op_ne (pe_callB (call_repr hq hu) (by rfl) T.repr (by decide +kernel) (pa_cons (pe_call G_law_asked (hr.mono (by decide)) rfl d_law_asked.g d_law_asked.F.kp d_law_asked.b .nil pass0 (pa_cons (pv 6) (pa_cons pe_int (pa_cons pe_non (pa_cons (pv 10) pa_nil))))) pa_nil)) (pe_callB (call_repr hq hu) (by rfl) T.repr (by decide +kernel) (pa_cons (pv 5) pa_nil)) (nomark _)) (pw_or1 (pt_cmpR op_ne (pe_callB (call_repr hq hu) (by rfl) T.repr (by decide +kernel) (pa_cons (pe_call G_law_asked (hr.mono (by decide)) rfl d_law_asked.g d_law_asked.F.kp d_law_asked.b .nil pass0 (pa_cons (pv 6) (pa_cons pe_int (pa_cons pe_non (pa_cons (pv 10) pa_nil))))) pa_nil)) (pe_callB (call_repr hq hu) (by rfl) T.repr (by decide +kernel) (pa_cons (pv 11) pa_nil)) (nomark _))))) (pss_one (ps_ret pe_bl)) pss_nil)
    (pss_cons (ps_if (pt_cmpR op_ne (pe_callB (call_repr hq hu) (by rfl) T.repr (by decide +kernel) (pa_cons (pe_call G_law_asked (hr.mono (by decide)) rfl d_law_asked.g d_law_asked.F.kp d_law_asked.b .nil pass0 (pa_cons (pv 6) (pa_cons pe_int (pa_cons (pv 9) (pa_cons (pv 10) pa_nil))))) pa_nil)) (pe_callB (call_repr hq hu) (by rfl) T.repr (by decide +kernel) (pa_cons (pe_call G_law_led (hr.mono (by decide)) rfl d_law_led.g d_law_led.F.kp d_law_led.b .nil pass0 (pa_cons (pv 3) (pa_cons (pv 9) (pa_cons (pv 5) pa_nil)))) pa_nil)) (nomark _)) (pss_one (ps_ret pe_bl)) pss_nil)
    (pss_cons (ps_for PassesOwn.never rfl (pi_list (pe_lst (pa_cons pe_int (pa_cons pe_int (pa_cons (pe_call G_law_any (hr.mono (by decide)) rfl d_law_any.g d_law_any.F.kp d_law_any.b .nil pass0 (pa_cons (pv 1) (pa_cons pe_int pa_nil))) (pa_cons (pe_op op_sub (pe_op op_pow pe_int pe_int) (pe_call G_law_any (hr.mono (by decide)) rfl d_law_any.g d_law_any.F.kp d_law_any.b .nil pass0 (pa_cons (pv 1) (pa_cons pe_int pa_nil)))) pa_nil)))))) (pg_name (i := 12) sc_law.nd rfl (Or.inl rfl))
      (pss_one (ps_if (pt_cmpR op_ne (pe_callB (call_repr hq hu) (by rfl) T.repr (by decide +kernel) (pa_cons (pe_kw (ks := ["times", "row", "machine"]) G_eop (hr.mono (by decide)) rfl d_eop.g d_eop.F.kp k_eop (out_never (P := P) (w := w)) (pk_cons (pv 12) (pk_cons (pv 10) (pk_cons (pv 6) pk_nil)))) pa_nil)) (pe_callB (call_repr hq hu) (by rfl) T.repr (by decide +kernel) (pa_cons (pe_call G_law_power (hr.mono (by decide)) rfl d_law_power.g d_law_power.F.kp d_law_power.b .nil pass0 (pa_cons (pe_callTy call_list_of (by rfl) T.list (by decide +kernel) (pa_cons (pv 11) pa_nil)) (pa_cons (pv 12) pa_nil))) pa_nil)) (nomark _)) (pss_one (ps_ret pe_bl)) pss_nil)))
    (pss_cons (ps_set (i := 13) sc_law.nd rfl (Or.inl rfl) (pe_call G_law_any (hr.mono (by decide)) rfl d_law_any.g d_law_any.F.kp d_law_any.b .nil pass0 (pa_cons (pv 1) (pa_cons (pe_op op_add (pe_callB call_len_seq (by rfl) T.len PySem.boot_len (pa_cons (pv 5) pa_nil)) pe_int) pa_nil))))
    (pss_cons (ps_set (i := 14) sc_law.nd rfl (Or.inl rfl) (pe_op op_cat (pe_op op_cat (pe_callTy call_list_of (by rfl) T.list (by decide +kernel) (pa_cons (pe_slice sl_tupA (pv 5) po_none (po_some (pv 13))) pa_nil)) (pe_lst (pa_cons (pe_call G_law_of (hr.mono (by decide)) rfl d_law_of.g d_law_of.F.kp d_law_of.b .nil pass0 (pa_cons (pv 1) (pa_cons (pe_lst (pa_cons (pv 2) (pa_cons (pe_un un_neg pe_int) (pa_cons pe_non (pa_cons pe_bl (pa_cons pe_str (pa_cons (pe_tup (pa_cons pe_int pa_nil)) pa_nil))))))) pa_nil))) pa_nil))) (pe_callTy call_list_of (by rfl) T.list (by decide +kernel) (pa_cons (pe_slice sl_tupA (pv 5) (po_some (pv 13)) po_none) pa_nil))))
    (pss_cons (ps_set (i := 15) sc_law.nd rfl (Or.inl rfl) (pe_call G_law_of (hr.mono (by decide)) rfl d_law_of.g d_law_of.F.kp d_law_of.b .nil pass0 (pa_cons (pv 1) (pa_cons (pe_lst (pa_cons (pe_callB call_len_seq (by rfl) T.len PySem.boot_len (pa_cons (pv 3) pa_nil)) (pa_cons (pe_un un_neg pe_int) (pa_cons pe_non (pa_cons pe_bl (pa_cons pe_str (pa_cons (pe_tup (pa_cons pe_int pa_nil)) pa_nil))))))) pa_nil))))
    (pss_cons (ps_if (PW.pt (pw_or (pt_cmpR (op_neD hu2) (pe_call G_law_asked (hr.mono (by decide)) rfl d_law_asked.g d_law_asked.F.kp d_law_asked.b .nil pass0 (pa_cons (pv 6) (pa_cons pe_int (pa_cons pe_non (pa_cons (pv 14) pa_nil))))) (pe_tup (pa_cons pe_str (pa_cons (pv 13) pa_nil))) (nomark _)) (pw_or1 (pt_cmpR (op_neD hu2) (pe_call G_law_asked (hr.mono (by decide)) rfl d_law_asked.g d_law_asked.F.kp d_law_asked.b .nil pass0 (pa_cons (pv 6) (pa_cons pe_int (pa_cons pe_non (pa_cons (pe_call G_law_of (hr.mono (by decide)) rfl d_law_of.g d_law_of.F.kp d_law_of.b .nil pass0 (pa_cons (pv 1) (pa_cons (pe_lst (pa_cons pe_non (pa_cons pe_str (pa_cons pe_int pa_nil)))) pa_nil))) pa_nil))))) (pe_tup (pa_cons pe_str (pa_cons pe_int pa_nil))) (nomark _))))) (pss_one (ps_ret pe_bl)) pss_nil)
    (pss_cons (ps_if (PW.pt (pw_or (pt_cmpR (op_neD hu2) (pe_call G_law_asked (hr.mono (by decide)) rfl d_law_asked.g d_law_asked.F.kp d_law_asked.b .nil pass0 (pa_cons (pv 6) (pa_cons pe_int (pa_cons (pv 15) (pa_cons (pv 14) pa_nil))))) (pe_tup (pa_cons pe_str (pa_cons pe_int pa_nil))) (nomark _)) (pw_or1 (pt_cmpR (op_neD hu2) (pe_call G_law_asked (hr.mono (by decide)) rfl d_law_asked.g d_law_asked.F.kp d_law_asked.b .nil pass0 (pa_cons (pv 6) (pa_cons pe_int (pa_cons (pv 9) (pa_cons (pv 14) pa_nil))))) (pe_tup (pa_cons pe_str (pa_cons (pv 13) pa_nil))) (nomark _))))) (pss_one (ps_ret pe_bl)) pss_nil)
    (pss_cons (ps_if (PW.pt (pw_or (pt_not (pt_val (pe_callG G_law_beside hq hr rfl d_law_beside.g d_law_beside.F.kp d_law_beside.b (pa_cons (pv 1) (pa_cons (pv 2) (pa_cons (pv 3) (pa_cons (pv 6) pa_nil))))))) (pw_or1 (pt_not (pt_val (pe_call G_law_unlike (hr.mono (by decide)) rfl d_law_unlike.g d_law_unlike.F.kp d_law_unlike.b .nil pass0 (pa_cons (pv 1) (pa_cons (pv 2) (pa_cons (pv 3) (pa_cons (pv 6) pa_nil)))))))))) (pss_one (ps_ret pe_bl)) pss_nil)
    (pss_cons (ps_if (PW.pt (pw_or (pt_cmpR op_ne (pe_call G_law_power_at (hr.mono (by decide)) rfl d_law_power_at.g d_law_power_at.F.kp d_law_power_at.b .nil pass0 (pa_cons (pv 6) (pa_cons (pv 14) pa_nil))) (pv 13) (nomark _)) (pw_or1 (pt_cmpR op_ne (pe_call G_law_power_at (hr.mono (by decide)) rfl d_law_power_at.g d_law_power_at.F.kp d_law_power_at.b .nil pass0 (pa_cons (pv 6) (pa_cons pe_non pa_nil))) pe_int (nomark _))))) (pss_one (ps_ret pe_bl)) pss_nil)
    (pss_cons (ps_asg (pe_call G_law_wrong (hr.mono (by decide)) rfl d_law_wrong.g d_law_wrong.F.kp d_law_wrong.b .nil pass0 (pa_cons (pv 1) (pa_cons (pv 2) (pa_cons (pe_lc (own := [("_law_one", 19)]) (g := gName 19) (tt := tYes) (te := tCB (rLs K) (tCons (tVar 19) tNil)) rfl sc_law.nd (pi_list (pv 3)) (blkOk_by (N := N_law) (sc := defScope s_law) (by decide +kernel)) (fun _ _ _ _ _ => (pg_name (i := 19) sc_law.nd rfl (Or.inl rfl))) (fun _ _ _ _ _ => pts_nil) (fun _ _ _ _ _ => (pe_callTy call_list_of (by rfl) T.list (by decide +kernel) (pa_cons (pv 19) pa_nil)))) pa_nil)))) (pg_tup rfl (pgs_cons (pg_name (i := 16) sc_law.nd rfl (Or.inl rfl)) (pgs_cons (pg_name (i := 17) sc_law.nd rfl (Or.inl rfl)) (pgs_cons (pg_name (i := 18) sc_law.nd rfl (Or.inl rfl)) pgs_nil)))))
    (pss_one (ps_ret (pe_cmpR op_eq (pe_call G_law_refused (hr.mono (by decide)) rfl d_law_refused.g d_law_refused.F.kp d_law_refused.b .nil pass0 (pa_cons (pv 16) (pa_cons (pv 17) pa_nil))) (pv 18) (nomark _)))))))))))))))))))))))))))), ?_⟩
    refine ⟨_, rfl, sa, sn, 1, rfl, hsa, hsn, by decide, by decide, fun H1 d l D1 S1 hd hl => ?_⟩
    refine ⟨_, rfl, d, l, 10, rfl, by decide, by decide, D1, fun H2 t a A ts D2 S2 t0 ht N2 G2 h0 h5 hm R2 => ?_⟩
    refine ⟨t, _, rfl, SqT.of ht, rfl, _, _, rfl, _, _, rfl, rfl, ?_⟩
    have na : ¬ dl d l a := D1.free N2.top
    have nt : ∀ u ∈ ts, ¬ dl d l u.1 := fun u hu' => D1.free (N2.row u hu')
    have hz : ts.length ≤ 10 := by omega
    have hpos := R2.pos
    have RR : Rs A (rsOf ts) := R2.rs
    refine ⟨_, rfl, a, rfl, ⟨_, SqL.of G2.top⟩, fun gp hgp => ?_⟩
    refine lcF (K := K) (j := 5) id hgp D2 G2 na nt (by omega) (fun u hu' H3 D3 S3 hrow Q3 kQ => ⟨_, rfl, u.1, _, rfl, .inl (SqL.of hrow), fun b hb => kQ b hb⟩) (fun gs H3 eg N3 G3 D3 S3 => ?_)
    rw [List.map_id] at eg
    have ngp : ¬ dl d l gp := D2.free hgp
    have ngs : ∀ u ∈ gs, ¬ dl d l u.1 := fun u hu' => D2.free (N3.row u hu')
    have hgl : gs.length = ts.length := by rw [← rsOf_len gs, eg, rsOf_len]
    have RG : Rs A (rsOf gs) := by rw [eg]; exact RR
    have G23 := G2.kp S3.kp na nt
    refine joinName (by with_reducible rfl) (fun v H' => ∃ m us, v = .ref m ∧ Game CM H' d l a m A ts us ∧ GridAt H' gp gs ∧ SB d l H3 H') (fun Q' kQ => ?_) (fun v H4 hR => ?_)
    · refine ⟨_, rfl, d, l, 2, rfl, by decide, by decide, D3, fun H4 r D4 S4 r0 r1 => ⟨rfl, _, rfl, ite2 (fun _ => ?_) (fun _ => ?_)⟩⟩
      · have G34 := G3.kp S4.kp ngp ngs
        refine ⟨_, rfl, _, rfl, make_rows (CE := CE) h0 (by omega) G34 RG (by omega) fun H5 m us S5 hm5 M5 e5 => kQ _ _ ⟨m, us, rfl, ⟨D4.same S5, (G23.kp S4.kp na nt).same S5, na, nt, R2, h0, h5, by omega, M5, by rw [e5, eg]⟩, G34.same S5, S4.trans (KP.same S5).sb⟩⟩
      · have G34 := G3.kp S4.kp ngp ngs
        refine ⟨_, rfl, gp, rfl, ⟨_, SqL.of G34.top⟩, fun D hD => ?_⟩
        refine lcFT (K := K) (j := 5) hD D4 G34 ngp ngs (by omega) (fun u hu' H8 D8 S8 hrow Q8 kQ8 => ⟨_, rfl, .inl ⟨u.1, _, rfl, SqL.of hrow, fun b hb => kQ8 b hb⟩⟩) (fun vs8 H5 e8 hD8 hrows hne D5 S5 => ?_)
        have hvl : vs8.length = ts.length := by rw [← rsOf_len vs8, e8, rsOf_len, hgl]
        refine .inl ⟨D, _, rfl, SqL.of hD8, fun p2 hp2 => ⟨_, rfl, rfl, ?_⟩⟩
        refine make_rowsT (CE := CE) h0 (by omega) upd_same (fun u hu' => nk (hrows u hu') hp2) (by rw [e8]; exact RG) (by omega) fun H6 m us S6 hm6 M6 e6 => ?_
        have S46 : SB d l H4 H6 := S5.trans ((SB.new hp2).trans (KP.same S6).sb)
        exact kQ _ _ ⟨m, us, rfl, ⟨(D5.new hp2).same S6, (G23.kp S4.kp na nt).kp S46.kp na nt, na, nt, R2, h0, h5, by omega, M6, by rw [e6, e8, eg]⟩, G34.kp S46.kp ngp ngs, S4.trans S46⟩
    obtain ⟨m, us, rfl, g4, G4, S4⟩ := hR
    -- the passed lists are changed
    obtain ⟨g0, gr, rfl⟩ : ∃ g0 gr, gs = g0 :: gr := by
      cases gs with
      | nil =>
        simp at hgl
        omega
      | cons g0 gr => exact ⟨g0, gr, rfl⟩
    have hg0 := G4.row g0 List.mem_cons_self
    have hg0A : g0.2.length = A := (RG.row g0.2 List.mem_cons_self).1
    have n0 : gp ≠ g0.1 := fun e => by
      have h1 := G4.top
      rw [e, hg0] at h1
      injection h1 with h2
      injection h2 with h3
      have h4 := congrArg (fun l => l[0]?) h3
      simp only [List.getElem?_map] at h4
      rw [List.getElem?_eq_getElem (show 0 < g0.2.length by omega)] at h4
      cases h4
    have nN : ∀ {b : Addr}, H2 b = none → a ≠ b ∧ ∀ u ∈ ts, u.1 ≠ b := by
      intro b hb
      refine ⟨fun e => ?_, fun u hu' e => ?_⟩
      · have := G2.top
        rw [e, hb] at this
        cases this
      · have := G2.row u hu'
        rw [e, hb] at this
        cases this
    refine ⟨_, rfl, gp, _, 0, V.ref g0.1, rfl, rfl, SqL.of G4.top, atI_int (by decide) rfl, g0.1, _, 0, 0, rfl, rfl, hg0, ?_, ?_⟩
    · rw [List.length_map, hg0A]
      unfold ixN
      rw [if_pos (by decide), if_pos (by omega)] <;> rfl
    have g5 := g4.upd (o := .lst ((g0.2.map V.int).set 0 (V.int 99))) hg0 (ngs _ List.mem_cons_self) (nN (N3.row _ List.mem_cons_self)).1 (nN (N3.row _ List.mem_cons_self)).2
    have top5 := (upd_ne (o := .lst ((g0.2.map V.int).set 0 (V.int 99))) n0).trans G4.top
    refine ⟨_, rfl, .inl ⟨rfl, _, SqL.of top5⟩, by show 0 ≤ sizeLine; decide, fun q5 hq5 => ?_⟩
    refine ⟨gp, _, _, rfl, rfl, nk top5 hq5, ?_, ?_⟩
    · rw [List.length_map, hgl]
      exact Nat.lt_of_le_of_lt hz (by decide)
    have g6 := (g5.new (o := .lst []) hq5).upd (o := .lst (((g0 :: gr).map fun t => V.ref t.1) ++ [V.ref q5])) (nk top5 hq5) ngp (nN hgp).1 (nN hgp).2
    -- the rows, in tuples
    refine ⟨_, rfl, a, rfl, ⟨_, SqL.of g6.G.top⟩, fun D7 hD7 => ?_⟩
    refine lcFT (K := K) (j := 5) hD7 g6.D g6.G na nt (by omega) (fun u hu' H8 D8 S8 hrow Q8 kQ8 => ⟨_, rfl, .inl ⟨u.1, _, rfl, SqL.of hrow, fun b hb => kQ8 b hb⟩⟩) (fun vs H7 e7 hD7' hrows hne D7' S7 => ?_)
    refine .inl ⟨D7, _, rfl, SqL.of hD7', fun q7 hq7 => ?_⟩
    have g7 := (g6.go D7' S7).new (o := .tup (vs.map fun u => V.ref u.1)) hq7
    have hvl : vs.length = ts.length := by rw [← rsOf_len vs, e7, rsOf_len]
    have hv7 : Wh (upd H7 q7 (.tup (vs.map fun u => V.ref u.1))) q7 vs := ⟨upd_same, fun u hu' => nk (hrows u hu') hq7⟩
    have shr : ∀ r ∈ rsOf ts, r.length ≤ 5 ∧ ∀ z ∈ r, z.natAbs < 2 ^ 30 := fun r hr' => by
      obtain ⟨q1, q2⟩ := RR.row r hr'
      rw [rsOf_len] at q2
      exact ⟨by omega, fun z hz' => by
        have := q2 z hz'
        omega⟩
    have sh : Sh (machP (A : Int) (ts.length : Int) (rsOf ts)) := sh_mach (by omega) (by omega) shr (by rw [rsOf_len]; omega)
    refine joinNameIf (by with_reducible rfl) (fun H' => Game CM H' d l a m A ts us ∧ Wh H' q7 vs) (fun Q' kQ => ?_) (fun H8 hR => ?_)
    · have hul : us.length = ts.length := by rw [← rsOf_len us, g7.e, rsOf_len]
      obtain ⟨dx, t6, c1, c2, c3⟩ := id g7.M
      refine ⟨_, rfl, m, CM, dx, _, _, rfl, c1, TC.cl, TC.n1, fld_c _ _ _, _, rfl, m, CM, dx, _, _, rfl, c1, TC.cl, TC.n2, fld_n _ _ _, _, rfl, m, CM, dx, _, _, rfl, c1, TC.cl, TC.n3, fld_s _ _ _, by show 3 ≤ sizeLine; decide, fun p1 hp1 => ?_⟩
      refine ⟨.ref p1, machP (A : Int) (ts.length : Int) (rsOf ts), rfl, .tup (SqT.of upd_same) (.cons (.int _) (.cons (by rw [hul]; exact .int _) (.cons (.tup (SqT.of (nk c2 hp1)) (by rw [← g7.e]; exact dp_rows fun u hu' => nk (c3 u hu') hp1)) .nil))), .inr ⟨_, rfl⟩, sh, ?_⟩
      have g8 := g7.new (o := HO.tup [V.int (A : Int), V.int (us.length : Int), V.ref t6]) hp1
      have hv8 := hv7.same (Same.new (o := HO.tup [V.int (A : Int), V.int (us.length : Int), V.ref t6]) hp1)
      refine ⟨_, rfl, _, rfl, a, _, rfl, .inl (SqL.of g8.G.top), _, rfl, by show 3 ≤ sizeLine; decide, fun p2 hp2 => ?_⟩
      refine ⟨.ref p2, machP (A : Int) (ts.length : Int) (rsOf ts), rfl, .tup (SqT.of upd_same) (.cons (.int _) (.cons (by rw [List.length_map]; exact .int _) (.cons (.tup (SqT.of (nk hv8.top hp2)) (by rw [← e7]; exact dp_rows fun u hu' => nk (hv8.row u hu') hp2)) .nil))), .inr ⟨_, rfl⟩, sh, rfl, _, rfl, ?_⟩
      have eS : ∀ z : Str, (!decide (V.str z = V.str z)) = false := fun z => by rw [decide_eq_true rfl] <;> rfl
      rw [eS]
      refine iteF ?_
      have g9 := g8.new (o := HO.tup [V.int (A : Int), V.int ((ts.map fun t => V.ref t.1).length : Int), V.ref q7]) hp2
      have hv9 := hv8.same (Same.new (o := HO.tup [V.int (A : Int), V.int ((ts.map fun t => V.ref t.1).length : Int), V.ref q7]) hp2)
      refine ⟨_, rfl, _, rfl, _, rfl, make_rowsT (CE := CE) h0 (by omega) hv9.top hv9.row (by rw [e7]; exact RR) (by omega) fun H9 m9 us9 S9 hm9 M9 e9 => ?_⟩
      refine ⟨m, (A : Int), us, some ((A : Int), us9), rfl, (g9.same S9).M, .mach M9, _, rfl, ?_⟩
      have eM : (if true = true then !rowsEq (A : Int) us (some ((A : Int), us9)) else rowsEq (A : Int) us (some ((A : Int), us9))) = false := by
        rw [if_pos rfl]
        show (!(decide ((A : Int) = (A : Int)) && decide (rsOf us = rsOf us9))) = false
        rw [decide_eq_true rfl, decide_eq_true (show rsOf us = rsOf us9 by rw [g7.e, e9, e7])] <;> rfl
      rw [eM]
      exact kQ _ ⟨g9.same S9, hv9.same S9⟩
    obtain ⟨g8, hv8⟩ := hR
    refine joinIf (by with_reducible rfl) (fun H' => Game CM H' d l a m A ts us ∧ Wh H' q7 vs) (fun Q' kQ => ?_) (fun H9 hR => ?_)
    · refine ⟨_, rfl, _, rfl, _, rfl, by show 2 ≤ sizeLine; decide, fun p1 hp1 => ?_⟩
      have g9 := g8.new (o := HO.tup [V.int (A : Int), V.ref q7]) hp1
      have hv9 := hv8.same (Same.new (o := HO.tup [V.int (A : Int), V.ref q7]) hp1)
      refine ⟨m, (A : Int), us, none, rfl, g9.M, .tup upd_same, _, rfl, iteF ?_⟩
      refine ⟨_, rfl, m, (A : Int), us, none, rfl, g9.M, .str _, _, rfl, iteF ?_⟩
      refine ⟨_, rfl, q7, _, rfl, .inr (SqT.of hv9.top), _, _, rfl, rfl, _, rfl, ite2 (fun hc => ?_) (fun hc => ?_)⟩
      · obtain ⟨v0, vr, rfl⟩ : ∃ v0 vr, vs = v0 :: vr := by
          cases vs with
          | nil =>
            simp at hvl
            omega
          | cons v0 vr => exact ⟨v0, vr, rfl⟩
        refine ⟨_, rfl, _, rfl, _, rfl, _, rfl, q7, _, 0, V.ref v0.1, rfl, rfl, SqT.of hv9.top, atI_int (by decide) rfl, by show 1 ≤ sizeLine; decide, fun p2 hp2 => ?_⟩
        have g10 := g9.new (o := HO.tup [V.ref v0.1]) hp2
        have hv10 := hv9.same (Same.new (o := HO.tup [V.ref v0.1]) hp2)
        refine ⟨q7, p2, _, _, rfl, rfl, SqT.of hv10.top, SqT.of upd_same, by simp, ?_, (fun e => by cases e), fun _ p3 hp3 => ?_⟩
        · rw [List.length_map, hvl]
          exact Nat.le_trans (show ts.length + 1 ≤ 1000 by omega) (by decide)
        have g11 := g10.new (o := HO.tup (((v0 :: vr).map fun u => V.ref u.1) ++ [V.ref v0.1])) hp3
        have hv11 := hv10.same (Same.new (o := HO.tup (((v0 :: vr).map fun u => V.ref u.1) ++ [V.ref v0.1])) hp3)
        have eApp : rsOf ((v0 :: vr) ++ [v0]) = rsOf ts ++ [v0.2] := by
          rw [← e7]
          show List.map _ _ = _
          rw [List.map_append]
          rfl
        have RA : Rs A (rsOf ((v0 :: vr) ++ [v0])) := by
          rw [eApp]
          have hr0 := RR.row v0.2 (by rw [← e7]; exact List.mem_cons_self)
          refine ⟨by simp, fun r hr' => ?_⟩
          rw [List.length_append, rsOf_len]
          have key : ∀ r ∈ rsOf ts, r.length = A ∧ ∀ z ∈ r, 0 ≤ z ∧ z < ((ts.length + 1 : Nat) : Int) := fun r hr'' => by
            obtain ⟨q1, q2⟩ := RR.row r hr''
            rw [rsOf_len] at q2
            exact ⟨q1, fun z hz' => by
              have := q2 z hz'
              omega⟩
          rcases List.mem_append.mp hr' with h | h
          · exact key r h
          · rw [List.mem_singleton.mp h]
            exact key _ (by rw [← e7]; exact List.mem_cons_self)
        refine make_rowsT (CE := CE) (vs := (v0 :: vr) ++ [v0]) h0 (by omega) (by rw [upd_same, List.map_append] <;> rfl) (fun u hu' => hv11.row u (by
          rcases List.mem_append.mp hu' with h | h
          · exact h
          · rw [List.mem_singleton.mp h]
            exact List.mem_cons_self)) RA (by rw [List.length_append, hvl]; show ts.length + 1 ≤ 1000; omega) fun H12 m12 us12 S12 hm12 M12 e12 => ?_
        refine ⟨m, (A : Int), us, some ((A : Int), us12), rfl, (g11.same S12).M, .mach M12, _, rfl, ?_⟩
        have eM : (if false = true then !rowsEq (A : Int) us (some ((A : Int), us12)) else rowsEq (A : Int) us (some ((A : Int), us12))) = false := by
          rw [if_neg (by decide)]
          show (decide ((A : Int) = (A : Int)) && decide (rsOf us = rsOf us12)) = false
          rw [decide_eq_false (show ¬ rsOf us = rsOf us12 from fun e => by
            rw [g8.e, e12, eApp] at e
            have := congrArg List.length e
            rw [List.length_append] at this
            simp at this), Bool.and_false]
        rw [eM]
        exact kQ _ ⟨g11.same S12, hv11.same S12⟩
      · exact kQ _ ⟨g9, hv9⟩
    obtain ⟨g9, hv9⟩ := hR
    -- the row's length
    refine joinNx (by with_reducible rfl) (fun v H' => ∃ n : Int, v = .int n ∧ 0 ≤ n ∧ n ≤ 600 ∧ Game CM H' d l a m A ts us) (fun Q' kQ => ?_) (fun v H10 hR => ?_)
    · have two : ∀ H' : Hp, Game CM H' d l a m A ts us → (tCall spAny [] E0 (tCons (tVar 1) (tCons (tC (.int 13)) tNil))) [some (.ref sa), some (.ref d), some (.int (A : Int)), some (.ref a), some (.ref gp), none, some (.ref m), some (.ref q7), none, none, none, none, none, none, none, none, none, none, none, none] H' Q' := fun H' g' =>
        ⟨_, rfl, d, l, 13, rfl, by decide, by decide, g'.D, fun H'' r D'' S'' r0 r1 => kQ _ _ ⟨r, rfl, r0, by omega, g'.go D'' S''⟩⟩
      refine ⟨_, rfl, a, _, rfl, .inl (SqL.of g9.G.top), _, _, rfl, rfl, _, rfl, ite2 (fun hc => ?_) (fun hc => ?_)⟩
      · exact two _ g9
      · refine ⟨_, rfl, d, l, 3, rfl, by decide, by decide, g9.D, fun H' r D' S' r0 r1 => ⟨_, _, rfl, rfl, _, rfl, ite2 (fun _ => two _ (g9.go D' S')) (fun _ => ?_)⟩⟩
        have g' := g9.go D' S'
        exact ⟨_, rfl, d, l, 301, rfl, by decide, by decide, g'.D, fun H'' r D'' S'' r0 r1 => ⟨_, _, rfl, rfl, kQ _ _ ⟨_, rfl, by omega, by omega, g'.go D'' S''⟩⟩⟩
    obtain ⟨len, rfl, len0, len1, g10⟩ := hR
    refine ⟨_, rfl, _, rfl, _, rfl, d, l, (A : Int), len, rfl, by omega, by omega, len0, by omega, g10.D, fun H11 rq ns D11 S11 rq0 hrq hnl hns => ?_⟩
    have g11 := g10.go D11 S11
    have nrq : ¬ dl d l rq := g10.D.free rq0
    refine ⟨_, rfl, _, rfl, a, _, rfl, .inl (SqL.of g11.G.top), d, l, _, rfl, by rw [List.length_map]; omega, by rw [List.length_map]; omega, D11, fun H12 st D12 S12 s0 s1 => ⟨_, _, rfl, ?_⟩⟩
    rw [List.length_map] at s1
    have g12 := g11.go D12 S12
    have hrq12 := S12.kp.get nrq hrq
    refine joinNx (by with_reducible rfl) (fun v H' => ∃ (b : Addr) (dy : PyData), v = .ref b ∧ Play CM H' d l a m A ts us rq b ns dy) (fun Q' kQ => ?_) (fun v H13 hR => ?_)
    · refine ⟨_, rfl, d, l, 2, rfl, by decide, by decide, D12, fun H' r D' S' r0 r1 => ⟨rfl, _, rfl, ite2 (fun _ => ?_) (fun _ => ?_)⟩⟩
      · have hr' := S'.kp.get nrq hrq12
        exact ⟨_, rfl, rq, _, rfl, .inr (SqT.of hr'), fun b hb => kQ _ _ ⟨b, _, rfl, (g12.go D' S').new hb, nk hr' hb, nrq, D'.free hb, .inl ⟨upd_same, rfl⟩⟩⟩
      · have hr' := S'.kp.get nrq hrq12
        exact ⟨_, rfl, kQ _ _ ⟨rq, _, rfl, g12.go D' S', hr', nrq, nrq, .inr ⟨hr', rfl⟩⟩⟩
    obtain ⟨b, dy, rfl, g13⟩ := hR
    have hdy := g13.items
    have hin : intsD dy = ns := by
      unfold intsD
      rw [hdy.2]
      exact intD_ints ns
    have hrr : rowRes (A : Int) dy = none := by
      unfold rowRes
      rw [if_neg (by rw [hdy.1]; decide), hdy.2]
      exact badV_ok hns
    have hzl : (itemsD dy).length ≤ 1000 := by
      rw [hdy.2, List.length_map]
      omega
    have hnl' : ns.length ≤ 600 := by omega
    have hul : us.length = ts.length := by rw [← rsOf_len us, g13.g.e, rsOf_len]
    have mok := g13.g.mok
    -- what the row leads to
    refine ⟨_, rfl, _, rfl, a, rq, A, ts, ns, rfl, g13.g.G, R2, by omega, SqT.of g13.r, hns, fun H14 q14 S14 q140 hq14 => ?_⟩
    have g14 := g13.same S14
    have nq14 : ¬ dl d l q14 := g13.g.D.free q140
    have effI : InR ts.length (effs (rsOf ts) ns) := by
      have := effs_in RR (ns := ns) hns
      rw [rsOf_len] at this
      exact this
    have shN : Sh (rowP ns) := sh_row (fun z hz' => by
      have := hns z hz'
      omega) (by omega)
    have shE : Sh (rowP (effs (rsOf ts) ns)) := sh_row (fun z hz' => by
      have := effI.mem z hz'
      omega) (by rw [effI.len]; omega)
    have eS : ∀ z : Str, (!decide (V.str z = V.str z)) = false := fun z => by rw [decide_eq_true rfl] <;> rfl
    have ask0 : ∀ dx, askD (A : Int) us 0 dx dy = rowP ns := fun dx => by
      unfold askD
      rw [if_pos rfl, hrr]
      show rowP (intsD dy) = _
      rw [hin]
    have ask2 : ∀ dx, askD (A : Int) us 2 dx dy = rowP (effs (rsOf ts) ns) := fun dx => by
      unfold askD
      rw [if_neg (by decide), if_neg (by decide), hrr]
      show rowP (effs (rsOf us) (intsD dy)) = _
      rw [hin, g13.g.e]
    have hstB : isB (us.length : Int) (.int st) = true := by
      show (decide (0 ≤ st) && decide (st < (us.length : Int))) = true
      rw [decide_eq_true s0, decide_eq_true (by omega)] <;> rfl
    have ask1 : askD (A : Int) us 1 (.int st) dy = .int (led (rsOf ts) st ns) := by
      unfold askD
      rw [if_neg (by decide), if_pos rfl, if_pos hstB, hrr]
      show PyData.int (led (rsOf us) st (intsD dy)) = _
      rw [hin, g13.g.e]
    refine joinNameIf (by with_reducible rfl) (fun H' => Play CM H' d l a m A ts us rq b ns dy ∧ H' q14 = some (.tup ((effs (rsOf ts) ns).map V.int))) (fun Q' kQ => ?_) (fun H15 hR => ?_)
    · refine ⟨_, rfl, _, rfl, m, 0, .non, .ref b, .none, dy, (A : Int), us, rfl, g14.g.M, mok, .non, g14.dv, hzl, fun H' v S' Dp' => ?_⟩
      rw [ask0] at Dp'
      refine ⟨v, rowP ns, rfl, Dp', .inr (dp_ref Dp'), shN, ?_⟩
      have g15 := g14.same S'
      refine ⟨_, rfl, .ref rq, rowP ns, rfl, .tup (SqT.of g15.r) (dpAll_ints _), .inr ⟨_, rfl⟩, shN, rfl, _, rfl, ?_⟩
      rw [eS]
      refine iteF ?_
      refine ⟨_, rfl, _, rfl, m, 2, .non, .ref b, .none, dy, (A : Int), us, rfl, g15.g.M, mok, .non, g15.dv, hzl, fun H'' v2 S'' Dp'' => ?_⟩
      rw [ask2] at Dp''
      refine ⟨v2, rowP (effs (rsOf ts) ns), rfl, Dp'', .inr (dp_ref Dp''), shE, ?_⟩
      have hq16 := S'' _ _ (S' _ _ hq14)
      refine ⟨_, rfl, .ref q14, rowP (effs (rsOf ts) ns), rfl, .tup (SqT.of hq16) (dpAll_ints _), .inr ⟨_, rfl⟩, shE, rfl, _, rfl, ?_⟩
      rw [eS]
      exact kQ _ ⟨g15.same S'', hq16⟩
    obtain ⟨g15, hq15⟩ := hR
    refine joinIf (by with_reducible rfl) (fun H' => Play CM H' d l a m A ts us rq b ns dy ∧ H' q14 = some (.tup ((effs (rsOf ts) ns).map V.int))) (fun Q' kQ => ?_) (fun H16 hR => ?_)
    · have ledI := RR.led (ns := ns) (s := st) s0 (by rw [rsOf_len]; exact s1) hns
      rw [rsOf_len] at ledI
      refine ⟨_, rfl, _, rfl, _, rfl, m, 1, .int st, .ref b, .int st, dy, (A : Int), us, rfl, g15.g.M, mok, .int _, g15.dv, hzl, fun H' v S' Dp' => ?_⟩
      rw [ask1] at Dp'
      obtain rfl := dp_int Dp'
      refine ⟨_, _, rfl, .int _, .inl ⟨_, rfl⟩, sh_int (by omega), ?_⟩
      have g16 := g15.same S'
      refine ⟨_, rfl, _, rfl, _, rfl, a, rq, st, A, ts, ns, rfl, g16.g.G, R2, s0, s1, SqT.of g16.r, hns, ?_⟩
      refine ⟨_, _, rfl, .int _, .inl ⟨_, rfl⟩, sh_int (by omega), rfl, _, rfl, ?_⟩
      rw [eS]
      exact kQ _ ⟨g16, S' _ _ hq15⟩
    obtain ⟨g16, hq16⟩ := hR
    -- powers
    refine ⟨_, rfl, d, l, 6, rfl, by decide, by decide, g16.g.D, fun H17 r6 D17 S17 r60 r61 => ?_⟩
    have g17 := g16.go D17 S17
    have hq17 := S17.kp.get nq14 hq16
    refine ⟨_, _, rfl, rfl, ⟨by decide, by decide, by decide⟩, _, rfl, d, l, 1000, rfl, by decide, by decide, D17, fun H18 r7 D18 S18 r70 r71 => ?_⟩
    have g18 := g17.go D18 S18
    have hq18 := S18.kp.get nq14 hq17
    refine ⟨_, _, rfl, rfl, by show 4 ≤ sizeLine; decide, fun pl hpl => ?_⟩
    have hn4 : ∀ (i : Nat) (v : V), [V.int 0, V.int 1, V.int r6, V.int ((10 : Int) ^ (18 : Int).toNat - r7)][i]? = some v → ∃ n : Nat, v = .int (n : Int) ∧ n < 2 ^ 63 := fun i v hi => by
      match i, hi with
      | 0, hi => exact ⟨0, (Option.some.inj hi).symm, by decide⟩
      | 1, hi => exact ⟨1, (Option.some.inj hi).symm, by decide⟩
      | 2, hi => exact ⟨r6.toNat, by rw [Int.toNat_of_nonneg r60]; exact (Option.some.inj hi).symm, by omega⟩
      | 3, hi =>
        have e18 : (10 : Int) ^ (18 : Int).toNat = 1000000000000000000 := by decide
        rw [e18] at hi
        exact ⟨(1000000000000000000 - r7).toNat, by rw [Int.toNat_of_nonneg (by omega)]; exact (Option.some.inj hi).symm, by omega⟩
      | i + 4, hi => simp at hi
    refine ⟨pl, rfl, ⟨_, SqL.of upd_same⟩, for_list (K := K) (a := pl) (xs := [V.int 0, V.int 1, V.int r6, V.int ((10 : Int) ^ (18 : Int).toNat - r7)]) (fun i σ H' => ∃ v : Option V, σ = [some (.ref sa), some (.ref d), some (.int (A : Int)), some (.ref a), some (.ref gp), some (.ref rq), some (.ref m), some (.ref q7), some (.int len), some (.int st), some (.ref b), some (.ref q14), v, none, none, none, none, none, none, none] ∧
      Play CM H' d l a m A ts us rq b ns dy ∧ H' q14 = some (.tup ((effs (rsOf ts) ns).map V.int)) ∧ H' pl = some (.lst [V.int 0, V.int 1, V.int r6, V.int ((10 : Int) ^ (18 : Int).toNat - r7)])) ⟨none, rfl, g18.new hpl, nk hq18 hpl, upd_same⟩ (fun i σ H' _ ⟨_, _, _, _, h⟩ => SqL.of h) ?_ ?_⟩
    · rintro i v0 σ H19 hi ⟨v, rfl, g19, hq19, hpl19⟩
      obtain ⟨n, rfl, hn⟩ := hn4 i v0 hi
      refine ⟨_, rfl, _, rfl, _, rfl, rfl, m, .ref b, dy, (A : Int), us, n, rfl, g19.g.M, mok, g19.dv, hzl, hn, ?_⟩
      rw [hrr]
      intro H20 t20 S20 ht20
      have g20 := g19.same S20
      rw [hin, g13.g.e, hul] at ht20
      have PI := powG_in (k := 63) (t := n) effI (InR.rng ts.length)
      have shP : Sh (rowP (powG 63 n (effs (rsOf ts) ns) (rng ts.length))) := sh_row (fun z hz' => by
        have := PI.mem z hz'
        omega) (by rw [PI.len]; omega)
      refine ⟨.ref t20, _, rfl, .tup (SqT.of ht20) (dpAll_ints _), .inr ⟨_, rfl⟩, shP, ?_⟩
      refine ⟨_, rfl, q14, _, rfl, .inr (SqT.of (S20 _ _ hq19)), fun b2 hb2 => ⟨_, rfl, b2, (n : Int), effs (rsOf ts) ns, rfl, SqL.of upd_same, by rw [effI.len]; omega, fun z hz' => by rw [effI.len]; exact effI.mem z hz', by omega, by omega, fun H21 q21 S21 _ hq21 => ?_⟩⟩
      rw [effI.len, Int.toNat_natCast] at hq21
      refine ⟨.ref q21, _, rfl, .tup (SqT.of hq21) (dpAll_ints _), .inr ⟨_, rfl⟩, shP, rfl, _, rfl, ?_⟩
      rw [eS]
      have Sf := (Same.new (o := HO.lst ((effs (rsOf ts) ns).map V.int)) hb2).trans S21
      exact iteF ⟨_, rfl, g20.same Sf, Sf _ _ (S20 _ _ hq19), Sf _ _ (S20 _ _ hpl19)⟩
    · rintro σ H19 ⟨v12, rfl, g19, hq19, hpl19⟩
      -- a place, and a row that is wrong there
      refine ⟨_, rfl, _, rfl, rq, _, rfl, .inr (SqT.of g19.r), _, _, rfl, rfl, d, l, _, rfl, by rw [List.length_map]; omega, by rw [List.length_map]; omega, g19.g.D, fun H20 pl_ D20 S20 p0 p1 => ?_⟩
      rw [List.length_map] at p1
      obtain ⟨j, rfl⟩ : ∃ j : Nat, pl_ = (j : Int) := ⟨pl_.toNat, by omega⟩
      have hj : j ≤ ns.length := by omega
      have g20 := g19.go D20 S20
      have c1 : cutV (ns.map V.int) none (some (j : Int)) = (ns.take j).map V.int := by
        rw [cut_to (by rw [List.length_map]; exact hj), List.map_take]
      have c2 : cutV (ns.map V.int) (some (j : Int)) none = (ns.drop j).map V.int := by
        rw [cut_from (by rw [List.length_map]; exact hj), List.map_drop]
      refine ⟨_, rfl, _, rfl, (j : Int), rfl, rSlA_ok (SqT.of g20.r) fun H21 p1' S21 hp1' => ⟨p1', _, rfl, .inr hp1', fun b1 hb1 => ?_⟩⟩
      have g21 := (g20.same S21).new (o := HO.lst (cutV (ns.map V.int) none (some (j : Int)))) hb1
      have nb1 : ¬ dl d l b1 := (g20.same S21).g.D.free hb1
      refine ⟨_, rfl, _, rfl, _, rfl, by show 1 ≤ sizeLine; decide, fun t1 ht1 => ⟨by show 6 ≤ sizeLine; decide, fun q1 hq1 => ?_⟩⟩
      have nt1 : ¬ dl d l t1 := g21.g.D.free ht1
      have g22 := (g21.new (o := HO.tup [V.int 0]) ht1).new (o := HO.lst [V.int (A : Int), V.int (-1), V.non, V.bl true, V.str "0", V.ref t1]) hq1
      refine ⟨d, l, q1, _, rfl, upd_same, (g21.new (o := HO.tup [V.int 0]) ht1).g.D.free hq1, by show 0 < 6; decide, by show 6 ≤ 1000; decide, g22.g.D, fun H23 i1 v1 D23 S23 hi1 => ?_⟩
      have g23 := g22.go D23 S23
      have ht23 : H23 t1 = some (.tup [V.int 0]) := S23.kp.get nt1 (nk upd_same hq1)
      have hb23 : H23 b1 = some (.lst (cutV (ns.map V.int) none (some (j : Int)))) := S23.kp.get nb1 (nk (nk upd_same ht1) hq1)
      have hv1 : ∃ e, KDv d l H23 v1 e ∧ isB (A : Int) e = false := pick6 (P := fun v => ∃ e, KDv d l H23 v e ∧ isB (A : Int) e = false) hi1 ⟨_, fun _ _ => .int _, isB_self⟩ ⟨_, fun _ _ => .int (-1), rfl⟩ ⟨_, fun _ _ => .non, rfl⟩ ⟨_, fun _ _ => .bl true, rfl⟩ ⟨_, fun _ _ => .str _, rfl⟩ ⟨_, fun H' S' => .tup (S'.kp.get nt1 ht23) (.cons (.int 0) .nil), rfl⟩
      obtain ⟨e1, K1, hb1e⟩ := hv1
      refine ⟨by show 1 ≤ sizeLine; decide, fun p3 hp3 => ?_⟩
      have lc1 : (cutV (ns.map V.int) none (some (j : Int))).length ≤ 600 := by
        rw [c1, List.length_map, List.length_take]
        omega
      have lc2 : (cutV (ns.map V.int) (some (j : Int)) none).length ≤ 600 := by
        rw [c2, List.length_map, List.length_drop]
        omega
      refine ⟨b1, p3, _, _, rfl, rfl, nk hb23 hp3, upd_same, Nat.le_trans (show _ ≤ 1000 by simp only [List.length_singleton]; omega) (by decide), fun p4 hp4 => ?_⟩
      have g24 := (g23.new (o := HO.lst [v1]) hp3).new (o := HO.lst (cutV (ns.map V.int) none (some (j : Int)) ++ [v1])) hp4
      refine ⟨_, rfl, _, rfl, (j : Int), rfl, ?_⟩
      refine noPart ?_
      refine rSlA_ok (SqT.of g24.r) fun H25 p2' S25 hp2' => ?_
      refine ⟨p2', _, rfl, .inr hp2', fun b2 hb2 => ?_⟩
      have h4 : upd H25 b2 (HO.lst (cutV (ns.map V.int) (some (j : Int)) none)) p4 = some (.lst (cutV (ns.map V.int) none (some (j : Int)) ++ [v1])) := nk (S25 _ _ upd_same) hb2
      refine ⟨p4, b2, _, _, rfl, rfl, h4, upd_same, Nat.le_trans (show _ ≤ 2000 by rw [List.length_append]; simp only [List.length_singleton]; omega) (by decide), fun p5 hp5 => ?_⟩
      have g26 := ((g24.same S25).new (o := HO.lst (cutV (ns.map V.int) (some (j : Int)) none)) hb2).new (o := HO.lst (cutV (ns.map V.int) none (some (j : Int)) ++ [v1] ++ cutV (ns.map V.int) (some (j : Int)) none)) hp5
      have np5 : ¬ dl d l p5 := ((g24.same S25).new (o := HO.lst (cutV (ns.map V.int) (some (j : Int)) none)) hb2).g.D.free hp5
      have S2326 : Same H23 _ := (Same.new (o := HO.lst [v1]) hp3).trans ((Same.new (o := HO.lst (cutV (ns.map V.int) none (some (j : Int)) ++ [v1])) hp4).trans (S25.trans ((Same.new (o := HO.lst (cutV (ns.map V.int) (some (j : Int)) none)) hb2).trans (Same.new (o := HO.lst (cutV (ns.map V.int) none (some (j : Int)) ++ [v1] ++ cutV (ns.map V.int) (some (j : Int)) none)) hp5))))
      obtain ⟨dbad, edb⟩ : ∃ e : PyData, e = .list ((ns.take j).map PyData.int ++ e1 :: (ns.drop j).map PyData.int) := ⟨_, rfl⟩
      have K5 : KDv d l (upd (upd H25 b2 (HO.lst (cutV (ns.map V.int) (some (j : Int)) none))) p5 (HO.lst (cutV (ns.map V.int) none (some (j : Int)) ++ [v1] ++ cutV (ns.map V.int) (some (j : Int)) none))) (.ref p5) dbad := fun H' S' => by
        rw [edb]
        refine .lst (S'.kp.get np5 upd_same) ?_
        rw [c1, c2, List.append_assoc]
        exact dvAll_append (dvAll_ints _) (.cons (K1 H' ((KP.same S2326).sb.trans S')) (dvAll_ints _))
      have rb : rowRes (A : Int) dbad = some j := by
        unfold rowRes
        rw [edb, if_neg (by show ¬ true = false; decide)]
        show badV (A : Int) ((ns.take j).map PyData.int ++ e1 :: (ns.drop j).map PyData.int) 0 = _
        rw [badV_at hb1e (fun z hz' => hns z (List.mem_of_mem_take hz')), List.length_take, Nat.min_eq_left hj, Nat.zero_add]
      have zb : (itemsD dbad).length ≤ 1000 := by
        rw [edb]
        show ((ns.take j).map PyData.int ++ e1 :: (ns.drop j).map PyData.int).length ≤ 1000
        rw [List.length_append, List.length_cons, List.length_map, List.length_map, List.length_take, List.length_drop]
        omega
      -- a strange state
      refine ⟨_, rfl, _, rfl, a, _, rfl, .inl (SqL.of g26.g.G.top), _, rfl, by show 1 ≤ sizeLine; decide, fun t2 ht2 => ⟨by show 6 ≤ sizeLine; decide, fun q2 hq2 => ?_⟩⟩
      have nt2 : ¬ dl d l t2 := g26.g.D.free ht2
      have g27 := (g26.new (o := HO.tup [V.int 0]) ht2).new (o := HO.lst [V.int ((ts.map fun t => V.ref t.1).length : Int), V.int (-1), V.non, V.bl true, V.str "0", V.ref t2]) hq2
      refine ⟨d, l, q2, _, rfl, upd_same, (g26.new (o := HO.tup [V.int 0]) ht2).g.D.free hq2, by show 0 < 6; decide, by show 6 ≤ 1000; decide, g27.g.D, fun H28 i2 v2 D28 S28 hi2 => ?_⟩
      have g28 := g27.go D28 S28
      have ht28 : H28 t2 = some (.tup [V.int 0]) := S28.kp.get nt2 (nk upd_same hq2)
      have K5' : KDv d l H28 (.ref p5) dbad := K5.go ((SB.new ht2).trans ((SB.new hq2).trans S28))
      have hv2 : ∃ e, KDv d l H28 v2 e ∧ isB (us.length : Int) e = false := pick6 (P := fun v => ∃ e, KDv d l H28 v e ∧ isB (us.length : Int) e = false) hi2 ⟨_, fun _ _ => .int _, by rw [List.length_map, hul]; exact isB_self⟩ ⟨_, fun _ _ => .int (-1), rfl⟩ ⟨_, fun _ _ => .non, rfl⟩ ⟨_, fun _ _ => .bl true, rfl⟩ ⟨_, fun _ _ => .str _, rfl⟩ ⟨_, fun H' S' => .tup (S'.kp.get nt2 ht28) (.cons (.int 0) .nil), rfl⟩
      obtain ⟨e2, K2, hb2e⟩ := hv2
      have eI : ∀ z : Int, (!decide (V.int z = V.int z)) = false := fun z => by rw [decide_eq_true rfl] <;> rfl
      have b0 : ∀ dx, askD (A : Int) us 0 dx dbad = .tuple [.str "row", .int (j : Int)] := fun dx => by
        unfold askD
        rw [if_pos rfl, rb]
      have b1f : askD (A : Int) us 1 e2 dbad = .tuple [.str "refused", .int 0] := by
        unfold askD
        rw [if_neg (by decide), if_pos rfl, if_neg (by rw [hb2e]; decide)]
      have b1t : askD (A : Int) us 1 (.int st) dbad = .tuple [.str "row", .int (j : Int)] := by
        unfold askD
        rw [if_neg (by decide), if_pos rfl, if_pos hstB, rb]
      refine joinNameIf (by with_reducible rfl) (fun H' => Play CM H' d l a m A ts us rq b ns dy ∧ KDv d l H' (.ref p5) dbad ∧ KDv d l H' v2 e2) (fun Q' kQ => ?_) (fun H30 hR => ?_)
      · refine ⟨_, rfl, _, rfl, m, 0, .non, .ref p5, .none, dbad, (A : Int), us, rfl, g28.g.M, mok, .non, K5'.dv, zb, fun H' v S' Dp' => ?_⟩
        rw [b0] at Dp'
        refine ⟨_, rfl, by show 2 ≤ sizeLine; decide, fun p hp => ⟨_, _, dp_same (Same.new hp) Dp', .tup (SqT.of upd_same) (.cons (.str "row") (.cons (.int (j : Int)) .nil)), shaped_row _, shaped_row _, _, rfl, ?_⟩⟩
        rw [eqv_pair]
        refine iteF ?_
        have g29 := (g28.same S').new (o := HO.tup [V.str "row", V.int (j : Int)]) hp
        have S29 : SB d l H28 (upd H' p (HO.tup [V.str "row", V.int (j : Int)])) := (KP.same (S'.trans (Same.new hp))).sb
        refine ⟨_, rfl, _, rfl, by show 3 ≤ sizeLine; decide, fun q3 hq3 => ?_⟩
        have g30 := g29.new (o := HO.lst [V.non, V.str "0", V.int 7]) hq3
        refine ⟨d, l, q3, _, rfl, upd_same, g29.g.D.free hq3, by show 0 < 3; decide, by show 3 ≤ 1000; decide, g30.g.D, fun H31 i3 v3 D31 S31 hi3 => ?_⟩
        have g31 := g30.go D31 S31
        have hv3 : ∃ e, Dv H31 v3 e ∧ isS e = false ∧ itemsD e = [] := pick3 (P := fun v => ∃ e, Dv H31 v e ∧ isS e = false ∧ itemsD e = []) hi3 ⟨_, .non, rfl, rfl⟩ ⟨_, .str _, rfl, rfl⟩ ⟨_, .int _, rfl, rfl⟩
        obtain ⟨e3, D3e, hs3, hi3e⟩ := hv3
        refine ⟨m, 2, .non, v3, .none, e3, (A : Int), us, rfl, g31.g.M, mok, .non, D3e, by rw [hi3e]; decide, fun H'' v S'' Dp'' => ?_⟩
        have b2 : askD (A : Int) us 2 .none e3 = .tuple [.str "row", .int ((0 : Nat) : Int)] := by
          unfold askD
          rw [if_neg (by decide), if_neg (by decide), rowRes_no hs3]
        rw [b2] at Dp''
        refine ⟨by show 2 ≤ sizeLine; decide, fun p hp => ⟨_, _, dp_same (Same.new hp) Dp'', .tup (SqT.of upd_same) (.cons (.str "row") (.cons (.int 0) .nil)), shaped_row _, shaped_row _, _, rfl, ?_⟩⟩
        have eq0 : PyData.eqv (.tuple [.str "row", .int ((0 : Nat) : Int)]) (.tuple [.str "row", .int 0]) = true := eqv_pair _ _
        rw [eq0]
        have S32 : SB d l H28 (upd H'' p (HO.tup [V.str "row", V.int 0])) := S29.trans ((SB.new hq3).trans (S31.trans (KP.same (S''.trans (Same.new hp))).sb))
        exact kQ _ ⟨(g31.same S'').new hp, K5'.go S32, K2.go S32⟩
      obtain ⟨g30, K5b, K2b⟩ := hR
      refine joinIf (by with_reducible rfl) (fun H' => Play CM H' d l a m A ts us rq b ns dy ∧ KDv d l H' (.ref p5) dbad) (fun Q' kQ => ?_) (fun H31 hR => ?_)
      · refine ⟨_, rfl, _, rfl, _, rfl, m, 1, v2, .ref p5, e2, dbad, (A : Int), us, rfl, g30.g.M, mok, K2b.dv, K5b.dv, zb, fun H' v S' Dp' => ?_⟩
        rw [b1f] at Dp'
        refine ⟨by show 2 ≤ sizeLine; decide, fun p hp => ⟨_, _, dp_same (Same.new hp) Dp', .tup (SqT.of upd_same) (.cons (.str "refused") (.cons (.int 0) .nil)), shaped_ref _, shaped_ref _, _, rfl, ?_⟩⟩
        rw [eqv_pair]
        refine iteF ?_
        have g31 := (g30.same S').new (o := HO.tup [V.str "refused", V.int 0]) hp
        have S31 : Same H30 (upd H' p (HO.tup [V.str "refused", V.int 0])) := S'.trans (Same.new hp)
        refine ⟨_, rfl, _, rfl, _, rfl, m, 1, .int st, .ref p5, .int st, dbad, (A : Int), us, rfl, g31.g.M, mok, .int _, (K5b.go (KP.same S31).sb).dv, zb, fun H'' v' S'' Dp'' => ?_⟩
        rw [b1t] at Dp''
        refine ⟨_, rfl, by show 2 ≤ sizeLine; decide, fun p' hp' => ⟨_, _, dp_same (Same.new hp') Dp'', .tup (SqT.of upd_same) (.cons (.str "row") (.cons (.int (j : Int)) .nil)), shaped_row _, shaped_row _, _, rfl, ?_⟩⟩
        rw [eqv_pair]
        exact kQ _ ⟨(g31.same S'').new hp', K5b.go (KP.same (S31.trans (S''.trans (Same.new hp')))).sb⟩
      obtain ⟨g31, K5c⟩ := hR
      refine joinIf (by with_reducible rfl) (fun H' => Play CM H' d l a m A ts us rq b ns dy ∧ KDv d l H' (.ref p5) dbad) (fun Q' kQ => ?_) (fun H32 hR => ?_)
      · refine ⟨_, rfl, _, rfl, _, rfl, _, rfl, d, l, a, m, A, ts, us, rfl, g31.g, fun H' D' S' => ⟨true, rfl, iteF ?_⟩⟩
        exact ⟨_, rfl, _, rfl, _, rfl, _, rfl, d, l, a, m, A, ts, us, rfl, (g31.go D' S').g, fun H'' D'' S'' => ⟨true, rfl, kQ _ ⟨(g31.go D' S').go D'' S'', (K5c.go S').go S''⟩⟩⟩
      obtain ⟨g32, K5d⟩ := hR
      refine joinIf (by with_reducible rfl) (fun H' => Play CM H' d l a m A ts us rq b ns dy) (fun Q' kQ => ?_) (fun H33 g33 => ?_)
      · refine ⟨_, rfl, _, rfl, m, .ref p5, dbad, (A : Int), us, rfl, g32.g.M, mok, K5d.dv, zb, fun H' S' => ?_⟩
        rw [rb]
        refine ⟨_, rfl, rfl, _, rfl, ?_⟩
        have e1' : (!decide (resV ((some j).map fun k => (k : Int)) = V.int (j : Int))) = false := eI _
        rw [e1']
        refine iteF ⟨_, rfl, m, .non, .none, (A : Int), us, rfl, (g32.same S').g.M, mok, .non, by decide, fun H'' S'' => ?_⟩
        rw [rowRes_no (e := .none) rfl]
        refine ⟨rfl, _, rfl, ?_⟩
        show Q' (!decide (V.int 0 = V.int 0)) _
        rw [eI]
        exact kQ _ ((g32.same S').same S'')
      -- a machine that is wrong
      refine ⟨_, rfl, _, rfl, _, rfl, a, rfl, ⟨_, SqL.of g33.g.G.top⟩, fun Do hDo => ?_⟩
      refine lcF (K := K) (j := 19) id hDo g33.g.D g33.g.G na nt (by omega) (fun u hu' H3 D3 S3 hrow Q3 kQ => ⟨_, rfl, u.1, _, rfl, .inl (SqL.of hrow), fun b hb => kQ b hb⟩) (fun os H34 eo No Go Do' So => ?_)
      rw [List.map_id] at eo
      have hol : os.length = ts.length := by rw [← rsOf_len os, eo, rsOf_len]
      refine ⟨d, l, Do, A, os, rfl, Do', Go, g33.g.D.free hDo, fun u hu' => g33.g.D.free (No.row u hu'), rows_ok (by rw [eo]; exact RR), h0, h5, by omega, fun H35 t35 x35 y35 dc ds n35 D35 S35 ht35 Dx Dy z1 z2 hres => ?_⟩
      refine ⟨t35, _, rfl, SqT.of ht35, rfl, _, _, rfl, _, _, rfl, _, _, rfl, rfl, ?_⟩
      refine ⟨_, rfl, _, rfl, x35, y35, dc, ds, rfl, Dx, Dy, z1, z2, fun H36 S36 => ?_⟩
      rw [hres]
      refine ⟨_, rfl, rfl, ?_⟩
      have eF : decide (resV (some n35) = V.int n35) = true := decide_eq_true rfl
      rw [eF]
      exact k H36
end
end Lk

set_option Elab.async false
set_option linter.all false
set_option maxRecDepth 100000
set_option maxHeartbeats 4000000
namespace Lk
open PySem L2
theorem mk_is_integer {K : PySem.W.Frag} {h : Heap} {mg : Str → Option Value} {f : Addr} {od an : Option Addr} {sl : Array (Option Value)} {oc kV dc pm cd ct : Value} (X : K.In h) (G : h.Ns mainGlobals mg) (a : PySem.W.nsIn K mainGlobals "is_integer" = some (some (.ref f))) (l : K.lookup f = some ⟨oc, od, .func (PySem.W.fnOf "is_integer" "is_integer" (defArgs s_is_integer) (defBody s_is_integer) (defScope s_is_integer) .none kV dc pm an cd ct), sl⟩) (c : PySem.W.codeIn K cd "is_integer" = true) (k : PySem.W.keepIn K (.ref f) = true) :
    Df K mg "is_integer" s_is_integer f (PySem.W.fnOf "is_integer" "is_integer" (defArgs s_is_integer) (defBody s_is_integer) (defScope s_is_integer) .none kV dc pm an cd ct) P_is_integer := ⟨fun_mk (st := s_is_integer) l c k, PySem.W.mg_of X G a, (fun_mk (st := s_is_integer) l c k).binds fun _ _ _ _ _ _ us hl => match us, hl with | [_], _ => rfl⟩
theorem mk_is_number {K : PySem.W.Frag} {h : Heap} {mg : Str → Option Value} {f : Addr} {od an : Option Addr} {sl : Array (Option Value)} {oc kV dc pm cd ct : Value} (X : K.In h) (G : h.Ns mainGlobals mg) (a : PySem.W.nsIn K mainGlobals "is_number" = some (some (.ref f))) (l : K.lookup f = some ⟨oc, od, .func (PySem.W.fnOf "is_number" "is_number" (defArgs s_is_number) (defBody s_is_number) (defScope s_is_number) .none kV dc pm an cd ct), sl⟩) (c : PySem.W.codeIn K cd "is_number" = true) (k : PySem.W.keepIn K (.ref f) = true) :
    Df K mg "is_number" s_is_number f (PySem.W.fnOf "is_number" "is_number" (defArgs s_is_number) (defBody s_is_number) (defScope s_is_number) .none kV dc pm an cd ct) P_is_number := ⟨fun_mk (st := s_is_number) l c k, PySem.W.mg_of X G a, (fun_mk (st := s_is_number) l c k).binds fun _ _ _ _ _ _ us hl => match us, hl with | [_], _ => rfl⟩
theorem mk_is_below {K : PySem.W.Frag} {h : Heap} {mg : Str → Option Value} {f : Addr} {od an : Option Addr} {sl : Array (Option Value)} {oc kV dc pm cd ct : Value} (X : K.In h) (G : h.Ns mainGlobals mg) (a : PySem.W.nsIn K mainGlobals "is_below" = some (some (.ref f))) (l : K.lookup f = some ⟨oc, od, .func (PySem.W.fnOf "is_below" "is_below" (defArgs s_is_below) (defBody s_is_below) (defScope s_is_below) .none kV dc pm an cd ct), sl⟩) (c : PySem.W.codeIn K cd "is_below" = true) (k : PySem.W.keepIn K (.ref f) = true) :
    Df K mg "is_below" s_is_below f (PySem.W.fnOf "is_below" "is_below" (defArgs s_is_below) (defBody s_is_below) (defScope s_is_below) .none kV dc pm an cd ct) P_is_below := ⟨fun_mk (st := s_is_below) l c k, PySem.W.mg_of X G a, (fun_mk (st := s_is_below) l c k).binds fun _ _ _ _ _ _ us hl => match us, hl with | [_, _], _ => rfl⟩
theorem mk_is_sequence {K : PySem.W.Frag} {h : Heap} {mg : Str → Option Value} {f : Addr} {od an : Option Addr} {sl : Array (Option Value)} {oc kV dc pm cd ct : Value} (X : K.In h) (G : h.Ns mainGlobals mg) (a : PySem.W.nsIn K mainGlobals "is_sequence" = some (some (.ref f))) (l : K.lookup f = some ⟨oc, od, .func (PySem.W.fnOf "is_sequence" "is_sequence" (defArgs s_is_sequence) (defBody s_is_sequence) (defScope s_is_sequence) .none kV dc pm an cd ct), sl⟩) (c : PySem.W.codeIn K cd "is_sequence" = true) (k : PySem.W.keepIn K (.ref f) = true) :
    Df K mg "is_sequence" s_is_sequence f (PySem.W.fnOf "is_sequence" "is_sequence" (defArgs s_is_sequence) (defBody s_is_sequence) (defScope s_is_sequence) .none kV dc pm an cd ct) P_is_sequence := ⟨fun_mk (st := s_is_sequence) l c k, PySem.W.mg_of X G a, (fun_mk (st := s_is_sequence) l c k).binds fun _ _ _ _ _ _ us hl => match us, hl with | [_], _ => rfl⟩
theorem mk_are_below {K : PySem.W.Frag} {h : Heap} {mg : Str → Option Value} {f : Addr} {od an : Option Addr} {sl : Array (Option Value)} {oc kV dc pm cd ct : Value} (X : K.In h) (G : h.Ns mainGlobals mg) (a : PySem.W.nsIn K mainGlobals "are_below" = some (some (.ref f))) (l : K.lookup f = some ⟨oc, od, .func (PySem.W.fnOf "are_below" "are_below" (defArgs s_are_below) (defBody s_are_below) (defScope s_are_below) .none kV dc pm an cd ct), sl⟩) (c : PySem.W.codeIn K cd "are_below" = true) (k : PySem.W.keepIn K (.ref f) = true) :
    Df K mg "are_below" s_are_below f (PySem.W.fnOf "are_below" "are_below" (defArgs s_are_below) (defBody s_are_below) (defScope s_are_below) .none kV dc pm an cd ct) P_are_below := ⟨fun_mk (st := s_are_below) l c k, PySem.W.mg_of X G a, (fun_mk (st := s_are_below) l c k).binds fun _ _ _ _ _ _ us hl => match us, hl with | [_, _], _ => rfl⟩
theorem mk_is_entry {K : PySem.W.Frag} {h : Heap} {mg : Str → Option Value} {f : Addr} {od an : Option Addr} {sl : Array (Option Value)} {oc kV dc pm cd ct : Value} (X : K.In h) (G : h.Ns mainGlobals mg) (a : PySem.W.nsIn K mainGlobals "_is_entry" = some (some (.ref f))) (l : K.lookup f = some ⟨oc, od, .func (PySem.W.fnOf "_is_entry" "_is_entry" (defArgs s_is_entry) (defBody s_is_entry) (defScope s_is_entry) .none kV dc pm an cd ct), sl⟩) (c : PySem.W.codeIn K cd "_is_entry" = true) (k : PySem.W.keepIn K (.ref f) = true) :
    Df K mg "_is_entry" s_is_entry f (PySem.W.fnOf "_is_entry" "_is_entry" (defArgs s_is_entry) (defBody s_is_entry) (defScope s_is_entry) .none kV dc pm an cd ct) P_is_entry := ⟨fun_mk (st := s_is_entry) l c k, PySem.W.mg_of X G a, (fun_mk (st := s_is_entry) l c k).binds fun _ _ _ _ _ _ us hl => match us, hl with | [_, _, _], _ => rfl⟩
theorem mk_is_state {K : PySem.W.Frag} {h : Heap} {mg : Str → Option Value} {f : Addr} {od an : Option Addr} {sl : Array (Option Value)} {oc kV dc pm cd ct : Value} (X : K.In h) (G : h.Ns mainGlobals mg) (a : PySem.W.nsIn K mainGlobals "is_state" = some (some (.ref f))) (l : K.lookup f = some ⟨oc, od, .func (PySem.W.fnOf "is_state" "is_state" (defArgs s_is_state) (defBody s_is_state) (defScope s_is_state) .none kV dc pm an cd ct), sl⟩) (c : PySem.W.codeIn K cd "is_state" = true) (k : PySem.W.keepIn K (.ref f) = true) :
    Df K mg "is_state" s_is_state f (PySem.W.fnOf "is_state" "is_state" (defArgs s_is_state) (defBody s_is_state) (defScope s_is_state) .none kV dc pm an cd ct) P_is_state := ⟨fun_mk (st := s_is_state) l c k, PySem.W.mg_of X G a, (fun_mk (st := s_is_state) l c k).binds fun _ _ _ _ _ _ us hl => match us, hl with | [_, _], _ => rfl⟩
theorem mk_is_command {K : PySem.W.Frag} {h : Heap} {mg : Str → Option Value} {f : Addr} {od an : Option Addr} {sl : Array (Option Value)} {oc kV dc pm cd ct : Value} (X : K.In h) (G : h.Ns mainGlobals mg) (a : PySem.W.nsIn K mainGlobals "is_command" = some (some (.ref f))) (l : K.lookup f = some ⟨oc, od, .func (PySem.W.fnOf "is_command" "is_command" (defArgs s_is_command) (defBody s_is_command) (defScope s_is_command) .none kV dc pm an cd ct), sl⟩) (c : PySem.W.codeIn K cd "is_command" = true) (k : PySem.W.keepIn K (.ref f) = true) :
    Df K mg "is_command" s_is_command f (PySem.W.fnOf "is_command" "is_command" (defArgs s_is_command) (defBody s_is_command) (defScope s_is_command) .none kV dc pm an cd ct) P_is_command := ⟨fun_mk (st := s_is_command) l c k, PySem.W.mg_of X G a, (fun_mk (st := s_is_command) l c k).binds fun _ _ _ _ _ _ us hl => match us, hl with | [_, _], _ => rfl⟩
theorem mk_checked_row {K : PySem.W.Frag} {h : Heap} {mg : Str → Option Value} {f : Addr} {od an : Option Addr} {sl : Array (Option Value)} {oc kV dc pm cd ct : Value} (X : K.In h) (G : h.Ns mainGlobals mg) (a : PySem.W.nsIn K mainGlobals "checked_row" = some (some (.ref f))) (l : K.lookup f = some ⟨oc, od, .func (PySem.W.fnOf "checked_row" "checked_row" (defArgs s_checked_row) (defBody s_checked_row) (defScope s_checked_row) .none kV dc pm an cd ct), sl⟩) (c : PySem.W.codeIn K cd "checked_row" = true) (k : PySem.W.keepIn K (.ref f) = true) :
    Df K mg "checked_row" s_checked_row f (PySem.W.fnOf "checked_row" "checked_row" (defArgs s_checked_row) (defBody s_checked_row) (defScope s_checked_row) .none kV dc pm an cd ct) P_checked_row := ⟨fun_mk (st := s_checked_row) l c k, PySem.W.mg_of X G a, (fun_mk (st := s_checked_row) l c k).binds fun _ _ _ _ _ _ us hl => match us, hl with | [_, _], _ => rfl⟩
theorem mk_end_state {K : PySem.W.Frag} {h : Heap} {mg : Str → Option Value} {f : Addr} {od an : Option Addr} {sl : Array (Option Value)} {oc kV dc pm cd ct : Value} (X : K.In h) (G : h.Ns mainGlobals mg) (a : PySem.W.nsIn K mainGlobals "end_state" = some (some (.ref f))) (l : K.lookup f = some ⟨oc, od, .func (PySem.W.fnOf "end_state" "end_state" (defArgs s_end_state) (defBody s_end_state) (defScope s_end_state) .none kV dc pm an cd ct), sl⟩) (c : PySem.W.codeIn K cd "end_state" = true) (k : PySem.W.keepIn K (.ref f) = true) :
    Df K mg "end_state" s_end_state f (PySem.W.fnOf "end_state" "end_state" (defArgs s_end_state) (defBody s_end_state) (defScope s_end_state) .none kV dc pm an cd ct) P_end_state := ⟨fun_mk (st := s_end_state) l c k, PySem.W.mg_of X G a, (fun_mk (st := s_end_state) l c k).binds fun _ _ _ _ _ _ us hl => match us, hl with | [_, _, _], _ => rfl⟩
theorem mk_resting {K : PySem.W.Frag} {h : Heap} {mg : Str → Option Value} {f : Addr} {od an : Option Addr} {sl : Array (Option Value)} {oc kV dc pm cd ct : Value} (X : K.In h) (G : h.Ns mainGlobals mg) (a : PySem.W.nsIn K mainGlobals "resting" = some (some (.ref f))) (l : K.lookup f = some ⟨oc, od, .func (PySem.W.fnOf "resting" "resting" (defArgs s_resting) (defBody s_resting) (defScope s_resting) .none kV dc pm an cd ct), sl⟩) (c : PySem.W.codeIn K cd "resting" = true) (k : PySem.W.keepIn K (.ref f) = true) :
    Df K mg "resting" s_resting f (PySem.W.fnOf "resting" "resting" (defArgs s_resting) (defBody s_resting) (defScope s_resting) .none kV dc pm an cd ct) P_resting := ⟨fun_mk (st := s_resting) l c k, PySem.W.mg_of X G a, (fun_mk (st := s_resting) l c k).binds fun _ _ _ _ _ _ us hl => match us, hl with | [_], _ => rfl⟩
theorem mk_effects {K : PySem.W.Frag} {h : Heap} {mg : Str → Option Value} {f : Addr} {od an : Option Addr} {sl : Array (Option Value)} {oc kV dc pm cd ct : Value} (X : K.In h) (G : h.Ns mainGlobals mg) (a : PySem.W.nsIn K mainGlobals "effects" = some (some (.ref f))) (l : K.lookup f = some ⟨oc, od, .func (PySem.W.fnOf "effects" "effects" (defArgs s_effects) (defBody s_effects) (defScope s_effects) .none kV dc pm an cd ct), sl⟩) (c : PySem.W.codeIn K cd "effects" = true) (k : PySem.W.keepIn K (.ref f) = true) :
    Df K mg "effects" s_effects f (PySem.W.fnOf "effects" "effects" (defArgs s_effects) (defBody s_effects) (defScope s_effects) .none kV dc pm an cd ct) P_effects := ⟨fun_mk (st := s_effects) l c k, PySem.W.mg_of X G a, (fun_mk (st := s_effects) l c k).binds fun _ _ _ _ _ _ us hl => match us, hl with | [_], _ => rfl⟩
theorem mk_followed {K : PySem.W.Frag} {h : Heap} {mg : Str → Option Value} {f : Addr} {od an : Option Addr} {sl : Array (Option Value)} {oc kV dc pm cd ct : Value} (X : K.In h) (G : h.Ns mainGlobals mg) (a : PySem.W.nsIn K mainGlobals "followed" = some (some (.ref f))) (l : K.lookup f = some ⟨oc, od, .func (PySem.W.fnOf "followed" "followed" (defArgs s_followed) (defBody s_followed) (defScope s_followed) .none kV dc pm an cd ct), sl⟩) (c : PySem.W.codeIn K cd "followed" = true) (k : PySem.W.keepIn K (.ref f) = true) :
    Df K mg "followed" s_followed f (PySem.W.fnOf "followed" "followed" (defArgs s_followed) (defBody s_followed) (defScope s_followed) .none kV dc pm an cd ct) P_followed := ⟨fun_mk (st := s_followed) l c k, PySem.W.mg_of X G a, (fun_mk (st := s_followed) l c k).binds fun _ _ _ _ _ _ us hl => match us, hl with | [_, _], _ => rfl⟩
theorem mk_effect {K : PySem.W.Frag} {h : Heap} {mg : Str → Option Value} {f : Addr} {od an : Option Addr} {sl : Array (Option Value)} {oc kV dc pm cd ct : Value} (X : K.In h) (G : h.Ns mainGlobals mg) (a : PySem.W.nsIn K mainGlobals "effect" = some (some (.ref f))) (l : K.lookup f = some ⟨oc, od, .func (PySem.W.fnOf "effect" "effect" (defArgs s_effect) (defBody s_effect) (defScope s_effect) .none kV dc pm an cd ct), sl⟩) (c : PySem.W.codeIn K cd "effect" = true) (k : PySem.W.keepIn K (.ref f) = true) :
    Df K mg "effect" s_effect f (PySem.W.fnOf "effect" "effect" (defArgs s_effect) (defBody s_effect) (defScope s_effect) .none kV dc pm an cd ct) P_effect := ⟨fun_mk (st := s_effect) l c k, PySem.W.mg_of X G a, (fun_mk (st := s_effect) l c k).binds fun _ _ _ _ _ _ us hl => match us, hl with | [_, _], _ => rfl⟩
theorem mk_effect_of_power {K : PySem.W.Frag} {h : Heap} {mg : Str → Option Value} {f : Addr} {od an : Option Addr} {sl : Array (Option Value)} {oc kV dc pm cd ct : Value} (X : K.In h) (G : h.Ns mainGlobals mg) (a : PySem.W.nsIn K mainGlobals "effect_of_power" = some (some (.ref f))) (l : K.lookup f = some ⟨oc, od, .func (PySem.W.fnOf "effect_of_power" "effect_of_power" (defArgs s_effect_of_power) (defBody s_effect_of_power) (defScope s_effect_of_power) .none kV dc pm an cd ct), sl⟩) (c : PySem.W.codeIn K cd "effect_of_power" = true) (k : PySem.W.keepIn K (.ref f) = true) :
    Df K mg "effect_of_power" s_effect_of_power f (PySem.W.fnOf "effect_of_power" "effect_of_power" (defArgs s_effect_of_power) (defBody s_effect_of_power) (defScope s_effect_of_power) .none kV dc pm an cd ct) P_effect_of_power := ⟨fun_mk (st := s_effect_of_power) l c k, PySem.W.mg_of X G a, (fun_mk (st := s_effect_of_power) l c k).binds fun _ _ _ _ _ _ us hl => match us, hl with | [_, _, _], _ => rfl⟩
theorem mk_beside {K : PySem.W.Frag} {h : Heap} {mg : Str → Option Value} {f : Addr} {od an : Option Addr} {sl : Array (Option Value)} {oc kV dc pm cd ct : Value} (X : K.In h) (G : h.Ns mainGlobals mg) (a : PySem.W.nsIn K mainGlobals "beside" = some (some (.ref f))) (l : K.lookup f = some ⟨oc, od, .func (PySem.W.fnOf "beside" "beside" (defArgs s_beside) (defBody s_beside) (defScope s_beside) .none kV dc pm an cd ct), sl⟩) (c : PySem.W.codeIn K cd "beside" = true) (k : PySem.W.keepIn K (.ref f) = true) :
    Df K mg "beside" s_beside f (PySem.W.fnOf "beside" "beside" (defArgs s_beside) (defBody s_beside) (defScope s_beside) .none kV dc pm an cd ct) P_beside := ⟨fun_mk (st := s_beside) l c k, PySem.W.mg_of X G a, (fun_mk (st := s_beside) l c k).binds fun _ _ _ _ _ _ us hl => match us, hl with | [_, _], _ => rfl⟩
theorem mk_law_draw {K : PySem.W.Frag} {h : Heap} {mg : Str → Option Value} {f : Addr} {od an : Option Addr} {sl : Array (Option Value)} {oc kV dc pm cd ct : Value} (X : K.In h) (G : h.Ns mainGlobals mg) (a : PySem.W.nsIn K mainGlobals "_law_draw" = some (some (.ref f))) (l : K.lookup f = some ⟨oc, od, .func (PySem.W.fnOf "_law_draw" "_law_draw" (defArgs s_law_draw) (defBody s_law_draw) (defScope s_law_draw) .none kV dc pm an cd ct), sl⟩) (c : PySem.W.codeIn K cd "_law_draw" = true) (k : PySem.W.keepIn K (.ref f) = true) :
    Df K mg "_law_draw" s_law_draw f (PySem.W.fnOf "_law_draw" "_law_draw" (defArgs s_law_draw) (defBody s_law_draw) (defScope s_law_draw) .none kV dc pm an cd ct) P_law_draw := ⟨fun_mk (st := s_law_draw) l c k, PySem.W.mg_of X G a, (fun_mk (st := s_law_draw) l c k).binds fun _ _ _ _ _ _ us hl => match us, hl with | [_, _], _ => rfl⟩
theorem mk_law_any {K : PySem.W.Frag} {h : Heap} {mg : Str → Option Value} {f : Addr} {od an : Option Addr} {sl : Array (Option Value)} {oc kV dc pm cd ct : Value} (X : K.In h) (G : h.Ns mainGlobals mg) (a : PySem.W.nsIn K mainGlobals "_law_any" = some (some (.ref f))) (l : K.lookup f = some ⟨oc, od, .func (PySem.W.fnOf "_law_any" "_law_any" (defArgs s_law_any) (defBody s_law_any) (defScope s_law_any) .none kV dc pm an cd ct), sl⟩) (c : PySem.W.codeIn K cd "_law_any" = true) (k : PySem.W.keepIn K (.ref f) = true) :
    Df K mg "_law_any" s_law_any f (PySem.W.fnOf "_law_any" "_law_any" (defArgs s_law_any) (defBody s_law_any) (defScope s_law_any) .none kV dc pm an cd ct) P_law_any := ⟨fun_mk (st := s_law_any) l c k, PySem.W.mg_of X G a, (fun_mk (st := s_law_any) l c k).binds fun _ _ _ _ _ _ us hl => match us, hl with | [_, _], _ => rfl⟩
theorem mk_law_of {K : PySem.W.Frag} {h : Heap} {mg : Str → Option Value} {f : Addr} {od an : Option Addr} {sl : Array (Option Value)} {oc kV dc pm cd ct : Value} (X : K.In h) (G : h.Ns mainGlobals mg) (a : PySem.W.nsIn K mainGlobals "_law_of" = some (some (.ref f))) (l : K.lookup f = some ⟨oc, od, .func (PySem.W.fnOf "_law_of" "_law_of" (defArgs s_law_of) (defBody s_law_of) (defScope s_law_of) .none kV dc pm an cd ct), sl⟩) (c : PySem.W.codeIn K cd "_law_of" = true) (k : PySem.W.keepIn K (.ref f) = true) :
    Df K mg "_law_of" s_law_of f (PySem.W.fnOf "_law_of" "_law_of" (defArgs s_law_of) (defBody s_law_of) (defScope s_law_of) .none kV dc pm an cd ct) P_law_of := ⟨fun_mk (st := s_law_of) l c k, PySem.W.mg_of X G a, (fun_mk (st := s_law_of) l c k).binds fun _ _ _ _ _ _ us hl => match us, hl with | [_, _], _ => rfl⟩
theorem mk_law_mixed {K : PySem.W.Frag} {h : Heap} {mg : Str → Option Value} {f : Addr} {od an : Option Addr} {sl : Array (Option Value)} {oc kV dc pm cd ct : Value} (X : K.In h) (G : h.Ns mainGlobals mg) (a : PySem.W.nsIn K mainGlobals "_law_mixed" = some (some (.ref f))) (l : K.lookup f = some ⟨oc, od, .func (PySem.W.fnOf "_law_mixed" "_law_mixed" (defArgs s_law_mixed) (defBody s_law_mixed) (defScope s_law_mixed) .none kV dc pm an cd ct), sl⟩) (c : PySem.W.codeIn K cd "_law_mixed" = true) (k : PySem.W.keepIn K (.ref f) = true) :
    Df K mg "_law_mixed" s_law_mixed f (PySem.W.fnOf "_law_mixed" "_law_mixed" (defArgs s_law_mixed) (defBody s_law_mixed) (defScope s_law_mixed) .none kV dc pm an cd ct) P_law_mixed := ⟨fun_mk (st := s_law_mixed) l c k, PySem.W.mg_of X G a, (fun_mk (st := s_law_mixed) l c k).binds fun _ _ _ _ _ _ us hl => match us, hl with | [_, _], _ => rfl⟩
theorem mk_law_columns {K : PySem.W.Frag} {h : Heap} {mg : Str → Option Value} {f : Addr} {od an : Option Addr} {sl : Array (Option Value)} {oc kV dc pm cd ct : Value} (X : K.In h) (G : h.Ns mainGlobals mg) (a : PySem.W.nsIn K mainGlobals "_law_columns" = some (some (.ref f))) (l : K.lookup f = some ⟨oc, od, .func (PySem.W.fnOf "_law_columns" "_law_columns" (defArgs s_law_columns) (defBody s_law_columns) (defScope s_law_columns) .none kV dc pm an cd ct), sl⟩) (c : PySem.W.codeIn K cd "_law_columns" = true) (k : PySem.W.keepIn K (.ref f) = true) :
    Df K mg "_law_columns" s_law_columns f (PySem.W.fnOf "_law_columns" "_law_columns" (defArgs s_law_columns) (defBody s_law_columns) (defScope s_law_columns) .none kV dc pm an cd ct) P_law_columns := ⟨fun_mk (st := s_law_columns) l c k, PySem.W.mg_of X G a, (fun_mk (st := s_law_columns) l c k).binds fun _ _ _ _ _ _ us hl => match us, hl with | [_], _ => rfl⟩
theorem mk_law_column {K : PySem.W.Frag} {h : Heap} {mg : Str → Option Value} {f : Addr} {od an : Option Addr} {sl : Array (Option Value)} {oc kV dc pm cd ct : Value} (X : K.In h) (G : h.Ns mainGlobals mg) (a : PySem.W.nsIn K mainGlobals "_law_column" = some (some (.ref f))) (l : K.lookup f = some ⟨oc, od, .func (PySem.W.fnOf "_law_column" "_law_column" (defArgs s_law_column) (defBody s_law_column) (defScope s_law_column) .none kV dc pm an cd ct), sl⟩) (c : PySem.W.codeIn K cd "_law_column" = true) (k : PySem.W.keepIn K (.ref f) = true) :
    Df K mg "_law_column" s_law_column f (PySem.W.fnOf "_law_column" "_law_column" (defArgs s_law_column) (defBody s_law_column) (defScope s_law_column) .none kV dc pm an cd ct) P_law_column := ⟨fun_mk (st := s_law_column) l c k, PySem.W.mg_of X G a, (fun_mk (st := s_law_column) l c k).binds fun _ _ _ _ _ _ us hl => match us, hl with | [_, _, _], _ => rfl⟩
theorem mk_law_machine {K : PySem.W.Frag} {h : Heap} {mg : Str → Option Value} {f : Addr} {od an : Option Addr} {sl : Array (Option Value)} {oc kV dc pm cd ct : Value} (X : K.In h) (G : h.Ns mainGlobals mg) (a : PySem.W.nsIn K mainGlobals "_law_machine" = some (some (.ref f))) (l : K.lookup f = some ⟨oc, od, .func (PySem.W.fnOf "_law_machine" "_law_machine" (defArgs s_law_machine) (defBody s_law_machine) (defScope s_law_machine) .none kV dc pm an cd ct), sl⟩) (c : PySem.W.codeIn K cd "_law_machine" = true) (k : PySem.W.keepIn K (.ref f) = true) :
    Df K mg "_law_machine" s_law_machine f (PySem.W.fnOf "_law_machine" "_law_machine" (defArgs s_law_machine) (defBody s_law_machine) (defScope s_law_machine) .none kV dc pm an cd ct) P_law_machine := ⟨fun_mk (st := s_law_machine) l c k, PySem.W.mg_of X G a, (fun_mk (st := s_law_machine) l c k).binds fun _ _ _ _ _ _ us hl => match us, hl with | [_, _], _ => rfl⟩
theorem mk_law_row {K : PySem.W.Frag} {h : Heap} {mg : Str → Option Value} {f : Addr} {od an : Option Addr} {sl : Array (Option Value)} {oc kV dc pm cd ct : Value} (X : K.In h) (G : h.Ns mainGlobals mg) (a : PySem.W.nsIn K mainGlobals "_law_row" = some (some (.ref f))) (l : K.lookup f = some ⟨oc, od, .func (PySem.W.fnOf "_law_row" "_law_row" (defArgs s_law_row) (defBody s_law_row) (defScope s_law_row) .none kV dc pm an cd ct), sl⟩) (c : PySem.W.codeIn K cd "_law_row" = true) (k : PySem.W.keepIn K (.ref f) = true) :
    Df K mg "_law_row" s_law_row f (PySem.W.fnOf "_law_row" "_law_row" (defArgs s_law_row) (defBody s_law_row) (defScope s_law_row) .none kV dc pm an cd ct) P_law_row := ⟨fun_mk (st := s_law_row) l c k, PySem.W.mg_of X G a, (fun_mk (st := s_law_row) l c k).binds fun _ _ _ _ _ _ us hl => match us, hl with | [_, _, _], _ => rfl⟩
theorem mk_law_led {K : PySem.W.Frag} {h : Heap} {mg : Str → Option Value} {f : Addr} {od an : Option Addr} {sl : Array (Option Value)} {oc kV dc pm cd ct : Value} (X : K.In h) (G : h.Ns mainGlobals mg) (a : PySem.W.nsIn K mainGlobals "_law_led" = some (some (.ref f))) (l : K.lookup f = some ⟨oc, od, .func (PySem.W.fnOf "_law_led" "_law_led" (defArgs s_law_led) (defBody s_law_led) (defScope s_law_led) .none kV dc pm an cd ct), sl⟩) (c : PySem.W.codeIn K cd "_law_led" = true) (k : PySem.W.keepIn K (.ref f) = true) :
    Df K mg "_law_led" s_law_led f (PySem.W.fnOf "_law_led" "_law_led" (defArgs s_law_led) (defBody s_law_led) (defScope s_law_led) .none kV dc pm an cd ct) P_law_led := ⟨fun_mk (st := s_law_led) l c k, PySem.W.mg_of X G a, (fun_mk (st := s_law_led) l c k).binds fun _ _ _ _ _ _ us hl => match us, hl with | [_, _, _], _ => rfl⟩
theorem mk_law_effect {K : PySem.W.Frag} {h : Heap} {mg : Str → Option Value} {f : Addr} {od an : Option Addr} {sl : Array (Option Value)} {oc kV dc pm cd ct : Value} (X : K.In h) (G : h.Ns mainGlobals mg) (a : PySem.W.nsIn K mainGlobals "_law_effect" = some (some (.ref f))) (l : K.lookup f = some ⟨oc, od, .func (PySem.W.fnOf "_law_effect" "_law_effect" (defArgs s_law_effect) (defBody s_law_effect) (defScope s_law_effect) .none kV dc pm an cd ct), sl⟩) (c : PySem.W.codeIn K cd "_law_effect" = true) (k : PySem.W.keepIn K (.ref f) = true) :
    Df K mg "_law_effect" s_law_effect f (PySem.W.fnOf "_law_effect" "_law_effect" (defArgs s_law_effect) (defBody s_law_effect) (defScope s_law_effect) .none kV dc pm an cd ct) P_law_effect := ⟨fun_mk (st := s_law_effect) l c k, PySem.W.mg_of X G a, (fun_mk (st := s_law_effect) l c k).binds fun _ _ _ _ _ _ us hl => match us, hl with | [_, _], _ => rfl⟩
theorem mk_law_refused {K : PySem.W.Frag} {h : Heap} {mg : Str → Option Value} {f : Addr} {od an : Option Addr} {sl : Array (Option Value)} {oc kV dc pm cd ct : Value} (X : K.In h) (G : h.Ns mainGlobals mg) (a : PySem.W.nsIn K mainGlobals "_law_refused" = some (some (.ref f))) (l : K.lookup f = some ⟨oc, od, .func (PySem.W.fnOf "_law_refused" "_law_refused" (defArgs s_law_refused) (defBody s_law_refused) (defScope s_law_refused) .none kV dc pm an cd ct), sl⟩) (c : PySem.W.codeIn K cd "_law_refused" = true) (k : PySem.W.keepIn K (.ref f) = true) :
    Df K mg "_law_refused" s_law_refused f (PySem.W.fnOf "_law_refused" "_law_refused" (defArgs s_law_refused) (defBody s_law_refused) (defScope s_law_refused) .none kV dc pm an cd ct) P_law_refused := ⟨fun_mk (st := s_law_refused) l c k, PySem.W.mg_of X G a, (fun_mk (st := s_law_refused) l c k).binds fun _ _ _ _ _ _ us hl => match us, hl with | [_, _], _ => rfl⟩
theorem mk_law_wrong {K : PySem.W.Frag} {h : Heap} {mg : Str → Option Value} {f : Addr} {od an : Option Addr} {sl : Array (Option Value)} {oc kV dc pm cd ct : Value} (X : K.In h) (G : h.Ns mainGlobals mg) (a : PySem.W.nsIn K mainGlobals "_law_wrong" = some (some (.ref f))) (l : K.lookup f = some ⟨oc, od, .func (PySem.W.fnOf "_law_wrong" "_law_wrong" (defArgs s_law_wrong) (defBody s_law_wrong) (defScope s_law_wrong) .none kV dc pm an cd ct), sl⟩) (c : PySem.W.codeIn K cd "_law_wrong" = true) (k : PySem.W.keepIn K (.ref f) = true) :
    Df K mg "_law_wrong" s_law_wrong f (PySem.W.fnOf "_law_wrong" "_law_wrong" (defArgs s_law_wrong) (defBody s_law_wrong) (defScope s_law_wrong) .none kV dc pm an cd ct) P_law_wrong := ⟨fun_mk (st := s_law_wrong) l c k, PySem.W.mg_of X G a, (fun_mk (st := s_law_wrong) l c k).binds fun _ _ _ _ _ _ us hl => match us, hl with | [_, _, _], _ => rfl⟩
theorem mk_law_asked {K : PySem.W.Frag} {h : Heap} {mg : Str → Option Value} {f : Addr} {od an : Option Addr} {sl : Array (Option Value)} {oc kV dc pm cd ct : Value} (X : K.In h) (G : h.Ns mainGlobals mg) (a : PySem.W.nsIn K mainGlobals "_law_asked" = some (some (.ref f))) (l : K.lookup f = some ⟨oc, od, .func (PySem.W.fnOf "_law_asked" "_law_asked" (defArgs s_law_asked) (defBody s_law_asked) (defScope s_law_asked) .none kV dc pm an cd ct), sl⟩) (c : PySem.W.codeIn K cd "_law_asked" = true) (k : PySem.W.keepIn K (.ref f) = true) :
    Df K mg "_law_asked" s_law_asked f (PySem.W.fnOf "_law_asked" "_law_asked" (defArgs s_law_asked) (defBody s_law_asked) (defScope s_law_asked) .none kV dc pm an cd ct) P_law_asked := ⟨fun_mk (st := s_law_asked) l c k, PySem.W.mg_of X G a, (fun_mk (st := s_law_asked) l c k).binds fun _ _ _ _ _ _ us hl => match us, hl with | [_, _, _, _], _ => rfl⟩
theorem mk_law_wide {K : PySem.W.Frag} {h : Heap} {mg : Str → Option Value} {f : Addr} {od an : Option Addr} {sl : Array (Option Value)} {oc kV dc pm cd ct : Value} (X : K.In h) (G : h.Ns mainGlobals mg) (a : PySem.W.nsIn K mainGlobals "_law_wide" = some (some (.ref f))) (l : K.lookup f = some ⟨oc, od, .func (PySem.W.fnOf "_law_wide" "_law_wide" (defArgs s_law_wide) (defBody s_law_wide) (defScope s_law_wide) .none kV dc pm an cd ct), sl⟩) (c : PySem.W.codeIn K cd "_law_wide" = true) (k : PySem.W.keepIn K (.ref f) = true) :
    Df K mg "_law_wide" s_law_wide f (PySem.W.fnOf "_law_wide" "_law_wide" (defArgs s_law_wide) (defBody s_law_wide) (defScope s_law_wide) .none kV dc pm an cd ct) P_law_wide := ⟨fun_mk (st := s_law_wide) l c k, PySem.W.mg_of X G a, (fun_mk (st := s_law_wide) l c k).binds fun _ _ _ _ _ _ us hl => match us, hl with | [_, _], _ => rfl⟩
theorem mk_law_power_at {K : PySem.W.Frag} {h : Heap} {mg : Str → Option Value} {f : Addr} {od an : Option Addr} {sl : Array (Option Value)} {oc kV dc pm cd ct : Value} (X : K.In h) (G : h.Ns mainGlobals mg) (a : PySem.W.nsIn K mainGlobals "_law_power_at" = some (some (.ref f))) (l : K.lookup f = some ⟨oc, od, .func (PySem.W.fnOf "_law_power_at" "_law_power_at" (defArgs s_law_power_at) (defBody s_law_power_at) (defScope s_law_power_at) .none kV dc pm an cd ct), sl⟩) (c : PySem.W.codeIn K cd "_law_power_at" = true) (k : PySem.W.keepIn K (.ref f) = true) :
    Df K mg "_law_power_at" s_law_power_at f (PySem.W.fnOf "_law_power_at" "_law_power_at" (defArgs s_law_power_at) (defBody s_law_power_at) (defScope s_law_power_at) .none kV dc pm an cd ct) P_law_power_at := ⟨fun_mk (st := s_law_power_at) l c k, PySem.W.mg_of X G a, (fun_mk (st := s_law_power_at) l c k).binds fun _ _ _ _ _ _ us hl => match us, hl with | [_, _], _ => rfl⟩
theorem mk_law_unlike {K : PySem.W.Frag} {h : Heap} {mg : Str → Option Value} {f : Addr} {od an : Option Addr} {sl : Array (Option Value)} {oc kV dc pm cd ct : Value} (X : K.In h) (G : h.Ns mainGlobals mg) (a : PySem.W.nsIn K mainGlobals "_law_unlike" = some (some (.ref f))) (l : K.lookup f = some ⟨oc, od, .func (PySem.W.fnOf "_law_unlike" "_law_unlike" (defArgs s_law_unlike) (defBody s_law_unlike) (defScope s_law_unlike) .none kV dc pm an cd ct), sl⟩) (c : PySem.W.codeIn K cd "_law_unlike" = true) (k : PySem.W.keepIn K (.ref f) = true) :
    Df K mg "_law_unlike" s_law_unlike f (PySem.W.fnOf "_law_unlike" "_law_unlike" (defArgs s_law_unlike) (defBody s_law_unlike) (defScope s_law_unlike) .none kV dc pm an cd ct) P_law_unlike := ⟨fun_mk (st := s_law_unlike) l c k, PySem.W.mg_of X G a, (fun_mk (st := s_law_unlike) l c k).binds fun _ _ _ _ _ _ us hl => match us, hl with | [_, _, _, _], _ => rfl⟩
theorem mk_law_power {K : PySem.W.Frag} {h : Heap} {mg : Str → Option Value} {f : Addr} {od an : Option Addr} {sl : Array (Option Value)} {oc kV dc pm cd ct : Value} (X : K.In h) (G : h.Ns mainGlobals mg) (a : PySem.W.nsIn K mainGlobals "_law_power" = some (some (.ref f))) (l : K.lookup f = some ⟨oc, od, .func (PySem.W.fnOf "_law_power" "_law_power" (defArgs s_law_power) (defBody s_law_power) (defScope s_law_power) .none kV dc pm an cd ct), sl⟩) (c : PySem.W.codeIn K cd "_law_power" = true) (k : PySem.W.keepIn K (.ref f) = true) :
    Df K mg "_law_power" s_law_power f (PySem.W.fnOf "_law_power" "_law_power" (defArgs s_law_power) (defBody s_law_power) (defScope s_law_power) .none kV dc pm an cd ct) P_law_power := ⟨fun_mk (st := s_law_power) l c k, PySem.W.mg_of X G a, (fun_mk (st := s_law_power) l c k).binds fun _ _ _ _ _ _ us hl => match us, hl with | [_, _], _ => rfl⟩
theorem mk_law_beside {K : PySem.W.Frag} {h : Heap} {mg : Str → Option Value} {f : Addr} {od an : Option Addr} {sl : Array (Option Value)} {oc kV dc pm cd ct : Value} (X : K.In h) (G : h.Ns mainGlobals mg) (a : PySem.W.nsIn K mainGlobals "_law_beside" = some (some (.ref f))) (l : K.lookup f = some ⟨oc, od, .func (PySem.W.fnOf "_law_beside" "_law_beside" (defArgs s_law_beside) (defBody s_law_beside) (defScope s_law_beside) .none kV dc pm an cd ct), sl⟩) (c : PySem.W.codeIn K cd "_law_beside" = true) (k : PySem.W.keepIn K (.ref f) = true) :
    Df K mg "_law_beside" s_law_beside f (PySem.W.fnOf "_law_beside" "_law_beside" (defArgs s_law_beside) (defBody s_law_beside) (defScope s_law_beside) .none kV dc pm an cd ct) P_law_beside := ⟨fun_mk (st := s_law_beside) l c k, PySem.W.mg_of X G a, (fun_mk (st := s_law_beside) l c k).binds fun _ _ _ _ _ _ us hl => match us, hl with | [_, _, _, _], _ => rfl⟩
/-- an error of a class is taken by a clause that names the class, or not -/
theorem exm_of {K : PySem.W.Frag} {S R : Addr} {b : Bool} (h1 : PySem.W.subIn K (.ref R) (.type "BaseException") = some true) (h2 : PySem.W.isClsIn K R = true) (h3 : PySem.W.typeIn K (.ref R) = some (.type "type")) (h4 : PySem.W.subIn K (.ref S) (.ref R) = some b) : PySem.W.exmOne K (.ref S) (.ref R) = some b := by
  have e1 : (PySem.W.subIn K (.ref R) (.type "BaseException") == some true) = true := by rw [h1] <;> rfl
  have e2 : ((PySem.W.clsIn K R).isSome && PySem.W.typeIn K (.ref R) == some (.type "type")) = true := by
    have q : (PySem.W.clsIn K R).isSome = true := h2
    rw [q, h3] <;> rfl
  show (if (PySem.W.subIn K (.ref R) (.type "BaseException") == some true) = true then (if ((PySem.W.clsIn K R).isSome && PySem.W.typeIn K (.ref R) == some (.type "type")) = true then PySem.W.subIn K (.ref S) (.ref R) else none) else none) = some b
  rw [if_pos e1, if_pos e2]
  exact h4
/-- what is told of an error's class and of its __init__ -/
structure ErrF (K : PySem.W.Frag) (C fI : Addr) : Prop where
  sa : PySem.W.findIn K (.ref C) "__setattr__" = some (some (.builtin "object.__setattr__"))
  ga : PySem.W.findIn K (.ref C) "__getattribute__" = some (some (.builtin "BaseException.__getattribute__"))
  gg : PySem.W.findIn K (.ref C) "__getattr__" = some none
  nb : PySem.W.findIn K (.ref C) "at" = some none
  a : PySem.W.findIn K (.ref C) "__init__" = some (some (.ref fI))
  t : PySem.W.typeIn K (.ref fI) = some (.type "function")
  k : PySem.W.keepIn K (.ref C) = true
  e : PySem.W.subIn K (.ref C) (.type "BaseException") = some true
  tC : PySem.W.typeIn K (.ref C) = some (.type "type")
  h : PySem.W.hasDictIn K C = true
  i : PySem.W.isClsIn K C = true
  s : PySem.W.subIn K (.ref C) (.ref C) = some true
theorem err_mk {K : PySem.W.Frag} {h : Heap} {mg : Str → Option Value} {cn qn : Str} {C fI : Addr} {st : Stmt} {od an : Option Addr} {sl : Array (Option Value)} {oc dc pm cd ct : Value} {p1 p2 q1 q2 q3 q4 : Pos} {nm q : Str} {S N : Addr} {bs : List Value} {sn : List Str} {sub : List Value} {ab : Bool} {col : Option Bool} {dd : Option Addr} {m0 m1 m2 m3 m5 : Option Value} (X : K.In h) (G : h.Ns mainGlobals mg) (aC : PySem.W.nsIn K mainGlobals cn = some (some (.ref C))) (xL : K.lookup C = some (excClassObj nm q C N bs [.ref S, .type "ValueError", .type "Exception", .type "BaseException", .type "object"] true sn sub ab col dd m0 m1 m2 m3 m5 "ValueError.__new__")) (F : ErrF K C fI)
    (l : K.lookup fI = some ⟨oc, od, .func (PySem.W.fnOf "__init__" qn (defArgs st) (defBody st) (defScope st) .none .none dc pm an cd ct), sl⟩) (c : PySem.W.codeIn K cd qn = true) (e1 : defArgs st = PySem.ErrX.iA p1 p2) (e2 : defBody st = PySem.ErrX.iB q1 q2 q3 q4) (e3 : defScope st = PySem.ErrX.iS) : PySem.ErrX.ErrTxt K mg cn qn C fI := by
  rw [e1, e2, e3] at l
  exact { gC := PySem.W.mg_of X G aC, cls := ⟨nm, q, N, bs, _, sn, sub, ab, col, dd, m0, m1, m2, m3, m5, xL, by show PySem.HandSPX.refsVE [.type "ValueError", .type "Exception", .type "BaseException", .type "object"] = true; decide +kernel⟩, sa := F.sa, ga := F.ga, gg := F.gg, noN := F.nb, iC := F.a, tC := F.t, kC := F.k, exC := F.e, tyC := F.tC, hdC := F.h, te := exm_of F.e F.i F.tC F.s, fn := ⟨oc, od, dc, pm, an, cd, ct, sl, _, _, _, _, _, _, l, c⟩ }
end Lk

set_option Elab.async false
set_option linter.all false
set_option maxRecDepth 100000
set_option maxHeartbeats 8000000
namespace Lk
open PySem L2
/-- what is told of the class Machine -/
structure MacF (K : PySem.W.Frag) (CM fI fE : Addr) : Prop where
  pg : PySem.W.plainGet K CM Str.empty = true
  hd : PySem.W.hasDictIn K CM = true
  po : PySem.W.plainOver K CM = true
  sa : PySem.W.findIn K (.ref CM) "__setattr__" = some (some (.builtin "object.__setattr__"))
  n1 : PySem.W.findIn K (.ref CM) "commands" = some none
  n2 : PySem.W.findIn K (.ref CM) "states" = some none
  n3 : PySem.W.findIn K (.ref CM) "steps" = some none
  mkI : PySem.W.makesIn K CM = true
  ini : PySem.W.findIn K (.ref CM) "__init__" = some (some (.ref fI))
  fnI : PySem.W.isFn K (.ref fI) = true
  kp : PySem.W.keepIn K (.ref CM) = true
  ha : PySem.W.findIn K (.ref CM) "__class__" = some (some (.builtin "object.__class__"))
  hn : PySem.W.specialIn K (.builtin "object.__class__") "__get__" = some (some (.builtin "getset_descriptor.__get__"))
  htk : PySem.W.takesIn K (.builtin "object.__class__") = some true
  hm : PySem.W.mroIn K CM (.type "object") = some true
  kS : PySem.W.kitOne K (.type "str") (.ref CM) = some false
  kT : PySem.W.kitOne K (.type "tuple") (.ref CM) = some false
  kC : PySem.W.kitOne K (.ref CM) (.ref CM) = some true
  sS : PySem.W.subIn K (.type "str") (.ref CM) = some false
  sT : PySem.W.subIn K (.type "tuple") (.ref CM) = some false
  eq : PySem.W.findIn K (.ref CM) "__eq__" = some (some (.ref fE))
  isf : PySem.W.isFn K (.ref fE) = true
  ne : PySem.W.findIn K (.ref CM) "__ne__" = some (some (.builtin "object.__ne__"))
theorem all_mk {l : PySem.W.OpenLaw} {w : World} {K : PySem.W.Frag} {h : Heap} {mg : Str → Option Value} {fa f43 CM fI fE CE fCE CW fCW CR fCR : Addr} {f_is_integer f_is_number f_is_below f_is_sequence f_are_below f_is_entry f_is_state f_is_command f_checked_row f_end_state f_resting f_effects f_followed f_effect f_effect_of_power f_beside f_law_draw f_law_any f_law_of f_law_mixed f_law_columns f_law_column f_law_machine f_law_row f_law_led f_law_effect f_law_refused f_law_wrong f_law_asked f_law_wide f_law_power_at f_law_unlike f_law_power f_law_beside : Addr} {g_is_integer g_is_number g_is_below g_is_sequence g_are_below g_is_entry g_is_state g_is_command g_checked_row g_end_state g_resting g_effects g_followed g_effect g_effect_of_power g_beside g_law_draw g_law_any g_law_of g_law_mixed g_law_columns g_law_column g_law_machine g_law_row g_law_led g_law_effect g_law_refused g_law_wrong g_law_asked g_law_wide g_law_power_at g_law_unlike g_law_power g_law_beside : FuncData}
    {od1 an1 od2 an2 od3 an3 : Option Addr} {sl1 sl2 sl3 : Array (Option Value)} {oc1 kV1 dc1 pm1 cd1 ct1 oc2 kV2 dc2 pm2 cd2 ct2 oc3 kV3 dc3 pm3 cd3 ct3 : Value} (X : K.In h) (G : h.Ns mainGlobals mg) (hfa : mg "law" = some (.ref fa))
    (d_is_integer : Df K mg "is_integer" s_is_integer f_is_integer g_is_integer P_is_integer)
    (d_is_number : Df K mg "is_number" s_is_number f_is_number g_is_number P_is_number)
    (d_is_below : Df K mg "is_below" s_is_below f_is_below g_is_below P_is_below)
    (d_is_sequence : Df K mg "is_sequence" s_is_sequence f_is_sequence g_is_sequence P_is_sequence)
    (d_are_below : Df K mg "are_below" s_are_below f_are_below g_are_below P_are_below)
    (d_is_entry : Df K mg "_is_entry" s_is_entry f_is_entry g_is_entry P_is_entry)
    (d_is_state : Df K mg "is_state" s_is_state f_is_state g_is_state P_is_state)
    (d_is_command : Df K mg "is_command" s_is_command f_is_command g_is_command P_is_command)
    (d_checked_row : Df K mg "checked_row" s_checked_row f_checked_row g_checked_row P_checked_row)
    (d_end_state : Df K mg "end_state" s_end_state f_end_state g_end_state P_end_state)
    (d_resting : Df K mg "resting" s_resting f_resting g_resting P_resting)
    (d_effects : Df K mg "effects" s_effects f_effects g_effects P_effects)
    (d_followed : Df K mg "followed" s_followed f_followed g_followed P_followed)
    (d_effect : Df K mg "effect" s_effect f_effect g_effect P_effect)
    (d_effect_of_power : Df K mg "effect_of_power" s_effect_of_power f_effect_of_power g_effect_of_power P_effect_of_power)
    (d_beside : Df K mg "beside" s_beside f_beside g_beside P_beside)
    (d_law_draw : Df K mg "_law_draw" s_law_draw f_law_draw g_law_draw P_law_draw)
    (d_law_any : Df K mg "_law_any" s_law_any f_law_any g_law_any P_law_any)
    (d_law_of : Df K mg "_law_of" s_law_of f_law_of g_law_of P_law_of)
    (d_law_mixed : Df K mg "_law_mixed" s_law_mixed f_law_mixed g_law_mixed P_law_mixed)
    (d_law_columns : Df K mg "_law_columns" s_law_columns f_law_columns g_law_columns P_law_columns)
    (d_law_column : Df K mg "_law_column" s_law_column f_law_column g_law_column P_law_column)
    (d_law_machine : Df K mg "_law_machine" s_law_machine f_law_machine g_law_machine P_law_machine)
    (d_law_row : Df K mg "_law_row" s_law_row f_law_row g_law_row P_law_row)
    (d_law_led : Df K mg "_law_led" s_law_led f_law_led g_law_led P_law_led)
    (d_law_effect : Df K mg "_law_effect" s_law_effect f_law_effect g_law_effect P_law_effect)
    (d_law_refused : Df K mg "_law_refused" s_law_refused f_law_refused g_law_refused P_law_refused)
    (d_law_wrong : Df K mg "_law_wrong" s_law_wrong f_law_wrong g_law_wrong P_law_wrong)
    (d_law_asked : Df K mg "_law_asked" s_law_asked f_law_asked g_law_asked P_law_asked)
    (d_law_wide : Df K mg "_law_wide" s_law_wide f_law_wide g_law_wide P_law_wide)
    (d_law_power_at : Df K mg "_law_power_at" s_law_power_at f_law_power_at g_law_power_at P_law_power_at)
    (d_law_unlike : Df K mg "_law_unlike" s_law_unlike f_law_unlike g_law_unlike P_law_unlike)
    (d_law_power : Df K mg "_law_power" s_law_power f_law_power g_law_power P_law_power)
    (d_law_beside : Df K mg "_law_beside" s_law_beside f_law_beside g_law_beside P_law_beside)
    (a1 : PySem.W.nsIn K mainGlobals "law" = some (some (.ref f43))) (l1 : K.lookup f43 = some ⟨oc1, od1, .func (PySem.W.fnOf "law" "law" (defArgs s_law) (defBody s_law) (defScope s_law) .none kV1 dc1 pm1 an1 cd1 ct1), sl1⟩) (c1 : PySem.W.codeIn K cd1 "law" = true) (k1 : PySem.W.keepIn K (.ref f43) = true)
    (aM : PySem.W.nsIn K mainGlobals "Machine" = some (some (.ref CM))) (MF : MacF K CM fI fE)
    (l2 : K.lookup fI = some ⟨oc2, od2, .func (PySem.W.fnOf "__init__" "Machine.__init__" (defArgs s_Machine___init) (defBody s_Machine___init) (defScope s_Machine___init) .none kV2 dc2 pm2 an2 cd2 ct2), sl2⟩) (c2 : PySem.W.codeIn K cd2 "Machine.__init__" = true) (k2 : PySem.W.keepIn K (.ref fI) = true)
    (l3 : K.lookup fE = some ⟨oc3, od3, .func (PySem.W.fnOf "__eq__" "Machine.__eq__" (defArgs s_Machine___eq) (defBody s_Machine___eq) (defScope s_Machine___eq) .none kV3 dc3 pm3 an3 cd3 ct3), sl3⟩) (c3 : PySem.W.codeIn K cd3 "Machine.__eq__" = true) (k3 : PySem.W.keepIn K (.ref fE) = true)
    (EM : PySem.ErrX.ErrTxt K mg "InvalidMachine" "InvalidMachine.__init__" CE fCE) (EW : PySem.ErrX.ErrTxt K mg "InvalidRow" "InvalidRow.__init__" CW fCW) (ER : PySem.ErrX.ErrTxt K mg "Refused" "Refused.__init__" CR fCR) (ne : PySem.W.exmOne K (.ref CR) (.ref CW) = some false) (T : Txt mg) :
    ∃ fd : FuncData, (∀ (s : Shared) (v : Value), BindsTo s fd ⟨[v], []⟩ [("_law_script", v)]) ∧ ∀ base : Heap, K.In base → base.Ns mainGlobals mg → FnG l.prog w K mg base 11 fa fd ["_law_script"] (spLaw K) := by
  have e := hfa.symm.trans (PySem.W.mg_of X G a1)
  cases e
  have TC : TxC K CM := ⟨⟨MF.pg, MF.hd, MF.po, MF.sa⟩, MF.n1, MF.n2, MF.n3⟩
  have gM := PySem.W.mg_of X G aM
  have TE : TxE K mg CM fE := ⟨gM, MF.ha, MF.hn, MF.htk, MF.hm, MF.kS, MF.kT, MF.kC, MF.sS, MF.sT, MF.eq, MF.isf, MF.ne⟩
  have FI := fun_mk (st := s_Machine___init) l2 c2 k2
  have FE := fun_mk (st := s_Machine___eq) l3 c3 k3
  have bI := FI.binds (ps := P_Machine___init) fun _ _ _ _ _ _ us hl => match us, hl with | [_, _, _], _ => rfl
  have bE := FE.binds (ps := P_Machine___eq) fun _ _ _ _ _ _ us hl => match us, hl with | [_, _], _ => rfl
  have MC := McT.mk (⟨MF.mkI, MF.ini, MF.fnI, MF.kp⟩ : Mk K CM fI) gM bI (kbn_rev FI fun _ _ _ _ _ _ us ws h1 h2 => match us, ws, h1, h2 with | [_], [_, _], _, _ => by first | rfl | with_unfolding_all rfl | kernel_rfl)
  have k_checked_row : KBn K g_checked_row P_checked_row 0 ["value", "machine"] (fun us ws => us ++ ws.reverse) kRev := kbn_rev d_checked_row.F fun _ _ _ _ _ _ us ws h1 h2 => match us, ws, h1, h2 with | [], [_, _], _, _ => by first | rfl | with_unfolding_all rfl | kernel_rfl
  have k_end_state : KBn K g_end_state P_end_state 0 ["row", "state", "machine"] (fun us ws => us ++ ws.reverse) kRev := kbn_rev d_end_state.F fun _ _ _ _ _ _ us ws h1 h2 => match us, ws, h1, h2 with | [], [_, _, _], _, _ => by first | rfl | with_unfolding_all rfl | kernel_rfl
  have k_effect : KBn K g_effect P_effect 0 ["row", "machine"] (fun us ws => us ++ ws.reverse) kRev := kbn_rev d_effect.F fun _ _ _ _ _ _ us ws h1 h2 => match us, ws, h1, h2 with | [], [_, _], _, _ => by first | rfl | with_unfolding_all rfl | kernel_rfl
  have k_effect_of_power : KBn K g_effect_of_power P_effect_of_power 0 ["times", "row", "machine"] (fun us ws => us ++ ws.reverse) kRev := kbn_rev d_effect_of_power.F fun _ _ _ _ _ _ us ws h1 h2 => match us, ws, h1, h2 with | [], [_, _, _], _, _ => by first | rfl | with_unfolding_all rfl | kernel_rfl
  have k_beside : KBn K g_beside P_beside 0 ["other", "one"] (fun us ws => us ++ ws.reverse) kRev := kbn_rev d_beside.F fun _ _ _ _ _ _ us ws h1 h2 => match us, ws, h1, h2 with | [], [_, _], _, _ => by first | rfl | with_unfolding_all rfl | kernel_rfl
  refine ⟨PySem.W.fnOf "law" "law" (defArgs s_law) (defBody s_law) (defScope s_law) .none kV1 dc1 pm1 an1 cd1 ct1, fun s v => .of_eq rfl, fun base _ _ => ?_⟩
  have A0 : Df K mg "law" s_law fa (PySem.W.fnOf "law" "law" (defArgs s_law) (defBody s_law) (defScope s_law) .none kV1 dc1 pm1 an1 cd1 ct1) P_law := ⟨fun_mk (st := s_law) l1 c1 k1, PySem.W.mg_of X G a1, (fun_mk (st := s_law) l1 c1 k1).binds fun _ _ _ _ _ _ us hl => match us, hl with | [_], _ => rfl⟩
  have G_is_below : FnOk l.prog w K mg base CX0 3 f_is_below g_is_below P_is_below spBelowS := ok_below d_is_below d_is_number d_is_integer T
  have GI : FnOk l.prog w K mg base (L2.CX l.prog w) 7 fI _ P_Machine___init (spInit CM CE) := ok_init FI d_is_entry d_is_sequence d_are_below d_is_below d_is_number d_is_integer T TC EM
  have G_is_state : FnOk l.prog w K mg base CX0 4 f_is_state g_is_state P_is_state (spState CM) := ok_state d_is_state d_is_below G_is_below TC
  have G_is_command : FnOk l.prog w K mg base CX0 4 f_is_command g_is_command P_is_command (spCommand CM) := ok_command d_is_command d_is_below G_is_below TC
  have G_checked : FnOk l.prog w K mg base (L2.CX l.prog w) 6 f_checked_row g_checked_row P_checked_row (spChecked CM CW) := ok_checked d_checked_row d_is_sequence d_is_command G_is_command T EW
  have G_end : FnOk l.prog w K mg base (L2.CX l.prog w) 7 f_end_state g_end_state P_end_state (spEnd CM CR CW) := ok_end (fW := fI) d_end_state d_is_state d_checked_row G_is_state G_checked TC ER
  have G_eff : FnOk l.prog w K mg base (L2.CX l.prog w) 7 f_effect g_effect P_effect (spEff CM CW) := ok_eff (fW := fI) d_effect d_effects d_resting d_followed d_checked_row G_checked T TC
  have G_eop : FnOk l.prog w K mg base (L2.CX l.prog w) 8 f_effect_of_power g_effect_of_power P_effect_of_power (spEop CM CW) := ok_eop (fW := fI) d_effect_of_power d_effect d_resting d_followed G_eff T TC
  have G_bes : FnOk l.prog w K mg base (L2.CX l.prog w) 9 f_beside g_beside P_beside (spBeside CM CR) := ok_beside d_beside MC.mM MC.g MC.b GI T TC ER
  have EQ : EqT l.prog w K mg base CM fE _ := ⟨ok_eq FE T TC TE, bE, TE⟩
  have GM : FnOk l.prog w K mg base CX0 4 f_law_machine g_law_machine P_law_machine spMachine := ok_machine d_law_machine d_law_any d_law_of d_law_mixed d_law_columns d_law_column T
  have G_wide : FnOk l.prog w K mg base CX0 5 f_law_wide g_law_wide P_law_wide spWide := ok_wide d_law_wide d_law_any d_law_machine GM T
  have G_refused : FnOk l.prog w K mg base CX0 9 f_law_refused g_law_refused P_law_refused spRefused := ok_refused d_law_refused MC GI EM
  have G_power_at : FnOk l.prog w K mg base CX0 9 f_law_power_at g_law_power_at P_law_power_at (spPowerAt CM) := ok_power_at d_law_power_at d_effect_of_power G_eop EW
  have G_asked : FnOk l.prog w K mg base CX0 8 f_law_asked g_law_asked P_law_asked (spAsked K CM) := ok_asked d_law_asked d_checked_row d_end_state d_effect k_checked_row k_end_state k_effect G_checked G_end G_eff EW ER ne
  have G_unlike : FnOk l.prog w K mg base CX0 10 f_law_unlike g_law_unlike P_law_unlike (spUnlike CM) := ok_unlike d_law_unlike d_law_any d_law_refused G_refused MC GI EQ T
  have G_lb : FnG l.prog w K mg base 10 f_law_beside g_law_beside P_law_beside (spUnlike CM) := ok_law_beside d_law_beside d_law_machine GM d_beside k_beside G_bes MC GI TC ER T
  exact ok_law A0 d_law_draw d_law_wide d_law_any d_law_row d_law_effect d_law_led d_law_power d_law_asked d_law_of d_law_beside d_law_unlike d_law_power_at d_law_wrong d_law_refused d_effect_of_power k_effect_of_power G_wide G_asked G_lb G_unlike G_power_at G_refused G_eop MC GI EQ TC T
theorem walk {l : PySem.W.OpenLaw} {q : Program} {loose : List Str} {XP : (Str → Option Value) → Heap → Prop} {YP : World → Heap → Prop} {d : DefRec} {K : Params → PySem.W.Frag} (hn : l.most = some 63) (hdf : d.params.defaults = []) (hY : ∀ (w : World) (h : Heap), YP w h → (K w.params).In h)
    (F : ∀ (w : World) (mg : Str → Option Value) (fa : Addr) (h : Heap), (K w.params).In h → h.Ns mainGlobals mg → mg d.name = some (.ref fa) → ∃ fd : FuncData, (∀ (s : Shared) (u : Value), BindsTo s fd ⟨[u], []⟩ [("_law_script", u)]) ∧ ∀ base : Heap, (K w.params).In base → base.Ns mainGlobals mg → FnG l.prog w (K w.params) mg base 11 fa fd ["_law_script"] (spLaw (K w.params))) :
    PySem.W.WalkO q loose XP YP l.row.toRowW d [] (fun f vs => PySem.call f vs) :=
  walk_G (n := 63) (k := 11) (x := "_law_script") (sp := fun w => spLaw (K w.params)) hn (by decide) hdf ⟨rfl, by decide, by decide⟩ hY F fun _ _ a ns hl hS => ⟨a, ns, rfl, hS, hl, fun _ => rfl⟩
end Lk

set_option Elab.async false
open PySem PySem.W PyProof.Rows in
set_option maxRecDepth 100000 in
set_option maxHeartbeats 0 in
theorem PySem.Challenge.cw_lateslips_k01_machines_and_effects_holds : PySem.Challenge.rw_lateslips_k01_machines_and_effects.Holds := by
  w_on; o_law; k_head; (case hw => w_witness2)
  k_fill
  refine Lk.walk (l := PySem.Challenge.rw_lateslips_k01_machines_and_effects) rfl rfl (fun w h Y => PySem.W.kIn_of Y) ?F
  case F =>
    intro w mg fa h KX G hmg
    refine' Lk.all_mk KX G hmg (Lk.mk_is_integer KX G ?a_is_integer ?l_is_integer ?c_is_integer ?k_is_integer) (Lk.mk_is_number KX G ?a_is_number ?l_is_number ?c_is_number ?k_is_number) (Lk.mk_is_below KX G ?a_is_below ?l_is_below ?c_is_below ?k_is_below) (Lk.mk_is_sequence KX G ?a_is_sequence ?l_is_sequence ?c_is_sequence ?k_is_sequence) (Lk.mk_are_below KX G ?a_are_below ?l_are_below ?c_are_below ?k_are_below) (Lk.mk_is_entry KX G ?a_is_entry ?l_is_entry ?c_is_entry ?k_is_entry) (Lk.mk_is_state KX G ?a_is_state ?l_is_state ?c_is_state ?k_is_state) (Lk.mk_is_command KX G ?a_is_command ?l_is_command ?c_is_command ?k_is_command) (Lk.mk_checked_row KX G ?a_checked_row ?l_checked_row ?c_checked_row ?k_checked_row) (Lk.mk_end_state KX G ?a_end_state ?l_end_state ?c_end_state ?k_end_state) (Lk.mk_resting KX G ?a_resting ?l_resting ?c_resting ?k_resting) (Lk.mk_effects KX G ?a_effects ?l_effects ?c_effects ?k_effects) (Lk.mk_followed KX G ?a_followed ?l_followed ?c_followed ?k_followed) (Lk.mk_effect KX G ?a_effect ?l_effect ?c_effect ?k_effect) (Lk.mk_effect_of_power KX G ?a_effect_of_power ?l_effect_of_power ?c_effect_of_power ?k_effect_of_power) (Lk.mk_beside KX G ?a_beside ?l_beside ?c_beside ?k_beside) (Lk.mk_law_draw KX G ?a_law_draw ?l_law_draw ?c_law_draw ?k_law_draw) (Lk.mk_law_any KX G ?a_law_any ?l_law_any ?c_law_any ?k_law_any) (Lk.mk_law_of KX G ?a_law_of ?l_law_of ?c_law_of ?k_law_of) (Lk.mk_law_mixed KX G ?a_law_mixed ?l_law_mixed ?c_law_mixed ?k_law_mixed) (Lk.mk_law_columns KX G ?a_law_columns ?l_law_columns ?c_law_columns ?k_law_columns) (Lk.mk_law_column KX G ?a_law_column ?l_law_column ?c_law_column ?k_law_column) (Lk.mk_law_machine KX G ?a_law_machine ?l_law_machine ?c_law_machine ?k_law_machine) (Lk.mk_law_row KX G ?a_law_row ?l_law_row ?c_law_row ?k_law_row) (Lk.mk_law_led KX G ?a_law_led ?l_law_led ?c_law_led ?k_law_led) (Lk.mk_law_effect KX G ?a_law_effect ?l_law_effect ?c_law_effect ?k_law_effect) (Lk.mk_law_refused KX G ?a_law_refused ?l_law_refused ?c_law_refused ?k_law_refused) (Lk.mk_law_wrong KX G ?a_law_wrong ?l_law_wrong ?c_law_wrong ?k_law_wrong) (Lk.mk_law_asked KX G ?a_law_asked ?l_law_asked ?c_law_asked ?k_law_asked) (Lk.mk_law_wide KX G ?a_law_wide ?l_law_wide ?c_law_wide ?k_law_wide) (Lk.mk_law_power_at KX G ?a_law_power_at ?l_law_power_at ?c_law_power_at ?k_law_power_at) (Lk.mk_law_unlike KX G ?a_law_unlike ?l_law_unlike ?c_law_unlike ?k_law_unlike) (Lk.mk_law_power KX G ?a_law_power ?l_law_power ?c_law_power ?k_law_power) (Lk.mk_law_beside KX G ?a_law_beside ?l_law_beside ?c_law_beside ?k_law_beside) ?a1 ?l1 ?c1 ?k1 ?aM ⟨?m_pg, ?m_hd, ?m_po, ?m_sa, ?m_n1, ?m_n2, ?m_n3, ?m_mkI, ?m_ini, ?m_fnI, ?m_kp, ?m_ha, ?m_hn, ?m_htk, ?m_hm, ?m_kS, ?m_kT, ?m_kC, ?m_sS, ?m_sT, ?m_eq, ?m_isf, ?m_ne⟩ ?l2 ?c2 ?k2 ?l3 ?c3 ?k3 (Lk.err_mk (st := L2.inClass (Lk.top 2) 0) KX G ?e1_aC ?e1_xL ⟨?e1_sa, ?e1_ga, ?e1_gg, ?e1_nb, ?e1_a, ?e1_t, ?e1_k, ?e1_e, ?e1_tC, ?e1_h, ?e1_i, ?e1_s⟩ ?e1_l ?e1_c rfl rfl rfl) (Lk.err_mk (st := L2.inClass (Lk.top 3) 0) KX G ?e2_aC ?e2_xL ⟨?e2_sa, ?e2_ga, ?e2_gg, ?e2_nb, ?e2_a, ?e2_t, ?e2_k, ?e2_e, ?e2_tC, ?e2_h, ?e2_i, ?e2_s⟩ ?e2_l ?e2_c rfl rfl rfl) (Lk.err_mk (st := L2.inClass (Lk.top 4) 0) KX G ?e3_aC ?e3_xL ⟨?e3_sa, ?e3_ga, ?e3_gg, ?e3_nb, ?e3_a, ?e3_t, ?e3_k, ?e3_e, ?e3_tC, ?e3_h, ?e3_i, ?e3_s⟩ ?e3_l ?e3_c rfl rfl rfl) (Lk.exm_of ?ne1 ?ne2 ?ne3 ?ne4) ⟨PySem.W.mg_none_of KX G ?z_len, PySem.W.mg_none_of KX G ?z_abs, PySem.W.mg_none_of KX G ?z_int, PySem.W.mg_none_of KX G ?z_max, PySem.W.mg_none_of KX G ?z_min, PySem.W.mg_none_of KX G ?z_range, PySem.W.mg_none_of KX G ?z_list, PySem.W.mg_none_of KX G ?z_tuple, PySem.W.mg_none_of KX G ?z_enumerate, PySem.W.mg_none_of KX G ?z_zip, PySem.W.mg_none_of KX G ?z_isinstance, PySem.W.mg_none_of KX G ?z_all, PySem.W.mg_none_of KX G ?z_bool, PySem.W.mg_none_of KX G ?z_repr⟩
    (case a_is_integer => k_is)
    (case l_is_integer => k_is)
    (case c_is_integer => k_is)
    (case k_is_integer => k_is)
    (case a_is_number => k_is)
    (case l_is_number => k_is)
    (case c_is_number => k_is)
    (case k_is_number => k_is)
    (case a_is_below => k_is)
    (case l_is_below => k_is)
    (case c_is_below => k_is)
    (case k_is_below => k_is)
    (case a_is_sequence => k_is)
    (case l_is_sequence => k_is)
    (case c_is_sequence => k_is)
    (case k_is_sequence => k_is)
    (case a_are_below => k_is)
    (case l_are_below => k_is)
    (case c_are_below => k_is)
    (case k_are_below => k_is)
    (case a_is_entry => k_is)
    (case l_is_entry => k_is)
    (case c_is_entry => k_is)
    (case k_is_entry => k_is)
    (case a_is_state => k_is)
    (case l_is_state => k_is)
    (case c_is_state => k_is)
    (case k_is_state => k_is)
    (case a_is_command => k_is)
    (case l_is_command => k_is)
    (case c_is_command => k_is)
    (case k_is_command => k_is)
    (case a_checked_row => k_is)
    (case l_checked_row => k_is)
    (case c_checked_row => k_is)
    (case k_checked_row => k_is)
    (case a_end_state => k_is)
    (case l_end_state => k_is)
    (case c_end_state => k_is)
    (case k_end_state => k_is)
    (case a_resting => k_is)
    (case l_resting => k_is)
    (case c_resting => k_is)
    (case k_resting => k_is)
    (case a_effects => k_is)
    (case l_effects => k_is)
    (case c_effects => k_is)
    (case k_effects => k_is)
    (case a_followed => k_is)
    (case l_followed => k_is)
    (case c_followed => k_is)
    (case k_followed => k_is)
    (case a_effect => k_is)
    (case l_effect => k_is)
    (case c_effect => k_is)
    (case k_effect => k_is)
    (case a_effect_of_power => k_is)
    (case l_effect_of_power => k_is)
    (case c_effect_of_power => k_is)
    (case k_effect_of_power => k_is)
    (case a_beside => k_is)
    (case l_beside => k_is)
    (case c_beside => k_is)
    (case k_beside => k_is)
    (case a_law_draw => k_is)
    (case l_law_draw => k_is)
    (case c_law_draw => k_is)
    (case k_law_draw => k_is)
    (case a_law_any => k_is)
    (case l_law_any => k_is)
    (case c_law_any => k_is)
    (case k_law_any => k_is)
    (case a_law_of => k_is)
    (case l_law_of => k_is)
    (case c_law_of => k_is)
    (case k_law_of => k_is)
    (case a_law_mixed => k_is)
    (case l_law_mixed => k_is)
    (case c_law_mixed => k_is)
    (case k_law_mixed => k_is)
    (case a_law_columns => k_is)
    (case l_law_columns => k_is)
    (case c_law_columns => k_is)
    (case k_law_columns => k_is)
    (case a_law_column => k_is)
    (case l_law_column => k_is)
    (case c_law_column => k_is)
    (case k_law_column => k_is)
    (case a_law_machine => k_is)
    (case l_law_machine => k_is)
    (case c_law_machine => k_is)
    (case k_law_machine => k_is)
    (case a_law_row => k_is)
    (case l_law_row => k_is)
    (case c_law_row => k_is)
    (case k_law_row => k_is)
    (case a_law_led => k_is)
    (case l_law_led => k_is)
    (case c_law_led => k_is)
    (case k_law_led => k_is)
    (case a_law_effect => k_is)
    (case l_law_effect => k_is)
    (case c_law_effect => k_is)
    (case k_law_effect => k_is)
    (case a_law_refused => k_is)
    (case l_law_refused => k_is)
    (case c_law_refused => k_is)
    (case k_law_refused => k_is)
    (case a_law_wrong => k_is)
    (case l_law_wrong => k_is)
    (case c_law_wrong => k_is)
    (case k_law_wrong => k_is)
    (case a_law_asked => k_is)
    (case l_law_asked => k_is)
    (case c_law_asked => k_is)
    (case k_law_asked => k_is)
    (case a_law_wide => k_is)
    (case l_law_wide => k_is)
    (case c_law_wide => k_is)
    (case k_law_wide => k_is)
    (case a_law_power_at => k_is)
    (case l_law_power_at => k_is)
    (case c_law_power_at => k_is)
    (case k_law_power_at => k_is)
    (case a_law_unlike => k_is)
    (case l_law_unlike => k_is)
    (case c_law_unlike => k_is)
    (case k_law_unlike => k_is)
    (case a_law_power => k_is)
    (case l_law_power => k_is)
    (case c_law_power => k_is)
    (case k_law_power => k_is)
    (case a_law_beside => k_is)
    (case l_law_beside => k_is)
    (case c_law_beside => k_is)
    (case k_law_beside => k_is)
    (case a1 => k_is)
    (case l1 => k_is)
    (case c1 => k_is)
    (case k1 => k_is)
    (case aM => k_is)
    (case m_pg => first | k_is | rfl | decide +kernel)
    (case m_hd => first | k_is | rfl | decide +kernel)
    (case m_po => first | k_is | rfl | decide +kernel)
    (case m_sa => first | k_is | rfl | decide +kernel)
    (case m_n1 => first | k_is | rfl | decide +kernel)
    (case m_n2 => first | k_is | rfl | decide +kernel)
    (case m_n3 => first | k_is | rfl | decide +kernel)
    (case m_mkI => first | k_is | rfl | decide +kernel)
    (case m_ini => first | k_is | rfl | decide +kernel)
    (case m_fnI => first | k_is | rfl | decide +kernel)
    (case m_kp => first | k_is | rfl | decide +kernel)
    (case m_ha => first | k_is | rfl | decide +kernel)
    (case m_hn => first | k_is | rfl | decide +kernel)
    (case m_htk => first | k_is | rfl | decide +kernel)
    (case m_hm => first | k_is | rfl | decide +kernel)
    (case m_kS => first | k_is | rfl | decide +kernel)
    (case m_kT => first | k_is | rfl | decide +kernel)
    (case m_kC => first | k_is | rfl | decide +kernel)
    (case m_sS => first | k_is | rfl | decide +kernel)
    (case m_sT => first | k_is | rfl | decide +kernel)
    (case m_eq => first | k_is | rfl | decide +kernel)
    (case m_isf => first | k_is | rfl | decide +kernel)
    (case m_ne => first | k_is | rfl | decide +kernel)
    (case l2 => k_is)
    (case c2 => k_is)
    (case k2 => k_is)
    (case l3 => k_is)
    (case c3 => k_is)
    (case k3 => k_is)
    (case e1_aC => k_is)
    (case e1_xL => k_is)
    (case e1_sa => first | k_is | rfl)
    (case e1_ga => first | k_is | rfl)
    (case e1_gg => first | k_is | rfl)
    (case e1_nb => first | k_is | rfl)
    (case e1_a => first | k_is | rfl)
    (case e1_t => first | k_is | rfl)
    (case e1_k => first | k_is | rfl)
    (case e1_e => first | k_is | rfl)
    (case e1_tC => first | k_is | rfl)
    (case e1_h => first | k_is | rfl)
    (case e1_i => first | k_is | rfl)
    (case e1_s => first | k_is | rfl)
    (case e1_l => k_is)
    (case e1_c => k_is)
    (case e2_aC => k_is)
    (case e2_xL => k_is)
    (case e2_sa => first | k_is | rfl)
    (case e2_ga => first | k_is | rfl)
    (case e2_gg => first | k_is | rfl)
    (case e2_nb => first | k_is | rfl)
    (case e2_a => first | k_is | rfl)
    (case e2_t => first | k_is | rfl)
    (case e2_k => first | k_is | rfl)
    (case e2_e => first | k_is | rfl)
    (case e2_tC => first | k_is | rfl)
    (case e2_h => first | k_is | rfl)
    (case e2_i => first | k_is | rfl)
    (case e2_s => first | k_is | rfl)
    (case e2_l => k_is)
    (case e2_c => k_is)
    (case e3_aC => k_is)
    (case e3_xL => k_is)
    (case e3_sa => first | k_is | rfl)
    (case e3_ga => first | k_is | rfl)
    (case e3_gg => first | k_is | rfl)
    (case e3_nb => first | k_is | rfl)
    (case e3_a => first | k_is | rfl)
    (case e3_t => first | k_is | rfl)
    (case e3_k => first | k_is | rfl)
    (case e3_e => first | k_is | rfl)
    (case e3_tC => first | k_is | rfl)
    (case e3_h => first | k_is | rfl)
    (case e3_i => first | k_is | rfl)
    (case e3_s => first | k_is | rfl)
    (case e3_l => k_is)
    (case e3_c => k_is)
    (case ne1 => k_is)
    (case ne2 => k_is)
    (case ne3 => k_is)
    (case ne4 => first | k_is | rfl)
    (case z_len => k_is)
    (case z_abs => k_is)
    (case z_int => k_is)
    (case z_max => k_is)
    (case z_min => k_is)
    (case z_range => k_is)
    (case z_list => k_is)
    (case z_tuple => k_is)
    (case z_enumerate => k_is)
    (case z_zip => k_is)
    (case z_isinstance => k_is)
    (case z_all => k_is)
    (case z_bool => k_is)
    (case z_repr => k_is)
