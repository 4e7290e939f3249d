import PyProof.Rows.All
import Wide.All
import OpenK.AllK
import Wide.FinOn
import HandS.ForMost
import HandS.ForExc
import HandS.Wide
import HandS.Style
import HandS.Conv
import HandS.IsInst
import PySem.Challenge.RW_lateslips_k46_whole_faces
import KE.GoesMore
import PyProof.Draws
import HandS.WideBits
import PyProof.InstEq
import HandS.OwnEq
import HandS.Zip
import HandS.MakeKwOnly
import PyProof.ReprRoads
import PyProof.ReprLen
import HandS.RaiseMore
import HandS.TupAny
import HandS.Strs
import HandS.ListItems
import KE.KDictZip
import PyProof.DictMoreH
import HandS.Walk
import HandS.SetKeys
import HandS.Deep
import HandS.CallSlots
set_option Elab.async false
set_option maxRecDepth 100000
namespace Lk
open PySem L2
def top (i : Nat) : Stmt := PySem.Challenge.pw_lateslips_k46_whole_faces.main.body.getD i (.Pass ⟨0, 0, 0, 0⟩)

/-! ### heaps: all but the deal stands -/
/-- what H tells stands in H', the two objects of the deal aside -/
def SB (d l : Addr) (H H' : Hp) : Prop := ∀ a o, H a = some o → a ≠ d → a ≠ l → H' a = some o
theorem SB.refl (d l : Addr) (H : Hp) : SB d l H H := fun _ _ h _ _ => h
theorem SB.trans {d l : Addr} {H H1 H2 : Hp} (x : SB d l H H1) (y : SB d l H1 H2) : SB d l H H2 := fun a o h n m => y a o (x a o h n m) n m
theorem SB.new {d l p : Addr} {H : Hp} {o : HO} (h : H p = none) : SB d l H (upd H p o) := fun a u e _ _ => by
  rw [upd_ne (ne_of_none e h)]
  exact e
theorem SB.d {d l : Addr} {H : Hp} {o : HO} : SB d l H (upd H d o) := fun a u e n _ => by
  rw [upd_ne n]
  exact e
theorem SB.l {d l : Addr} {H : Hp} {o : HO} : SB d l H (upd H l o) := fun a u e _ n => by
  rw [upd_ne n]
  exact e
/-- the deal: at d the pair of the great cells left, at l, and the blend -/
structure DealIs (H : Hp) (d l : Addr) (bs : List Int) (b : Int) : Prop where
  hd : H d = some (.lst [.ref l, .int b])
  hl : H l = some (.lst (bs.map V.int))
  pos : ∀ x ∈ bs, 0 ≤ x
  len : bs.length ≤ 48
  b0 : 0 ≤ b
  b1 : b < 2147483647
def DealAt (H : Hp) (d l : Addr) : Prop := ∃ bs b, DealIs H d l bs b
theorem DealIs.ne {H : Hp} {d l : Addr} {bs : List Int} {b : Int} (x : DealIs H d l bs b) : d ≠ l := fun e => by
  have h1 := x.hd
  have h2 := x.hl
  rw [e, h2] at h1
  have h3 := Option.some.inj h1
  injection h3 with h4
  cases bs with
  | nil => cases h4
  | cons y ys =>
    injection h4 with h5
    cases h5
theorem DealIs.new {H : Hp} {d l p : Addr} {o : HO} {bs : List Int} {b : Int} (x : DealIs H d l bs b) (h : H p = none) : DealIs (upd H p o) d l bs b :=
  ⟨by rw [upd_ne (ne_of_none x.hd h)]; exact x.hd, by rw [upd_ne (ne_of_none x.hl h)]; exact x.hl, x.pos, x.len, x.b0, x.b1⟩
theorem DealAt.new {H : Hp} {d l p : Addr} {o : HO} (x : DealAt H d l) (h : H p = none) : DealAt (upd H p o) d l := by
  obtain ⟨bs, b, y⟩ := x
  exact ⟨bs, b, y.new h⟩

/-! ### data: ints in a list -/
theorem dpAll_ints {K : PySem.W.Frag} {H : Hp} : ∀ bs : List Int, DpAll K H (bs.map V.int) (bs.map PyData.int)
  | [] => .nil
  | _ :: bs => .cons (.int _) (dpAll_ints bs)
theorem canLay_ints : ∀ bs : List Int, PyData.canLayAll0 (bs.map PyData.int) = true
  | [] => rfl
  | _ :: bs => by
    show (true && PyData.canLayAll0 (bs.map PyData.int)) = true
    rw [canLay_ints bs] <;> rfl
theorem depth_ints : ∀ bs : List Int, PyData.depthAll (bs.map PyData.int) ≤ 1
  | [] => by decide
  | z :: bs => by
    have h := depth_ints bs
    show max (PyData.depth (.int z)) (PyData.depthAll (bs.map PyData.int)) ≤ 1
    have e : PyData.depth (.int z) = 0 := rfl
    omega
theorem shaped_ints (bs : List Int) : SeqAt.shaped (.list (bs.map PyData.int)) = true := by
  have h1 : PyData.canLay0 (.list (bs.map PyData.int)) = true := canLay_ints bs
  have h2 : PyData.depth (.list (bs.map PyData.int)) = PyData.depthAll (bs.map PyData.int) + 1 := rfl
  have h3 := depth_ints bs
  unfold SeqAt.shaped
  rw [h1, Bool.true_and]
  exact decide_eq_true (by omega)
theorem eqv_nil (ds : List PyData) : PyData.eqv (.list ds) (.list []) = ds.isEmpty := by
  cases ds <;> rfl

/-! ### the facts of the top that the defs lean on -/
/-- a def of the text, at f -/
structure Df (K : PySem.W.Frag) (mg : Str → Option Value) (x : Str) (st : Stmt) (f : Addr) (fd : FuncData) (ps : List Str) : Prop where
  F : Fun K x x st f fd
  g : mg x = some (.ref f)
  b : Binds K fd ps []
structure Txt (mg : Str → Option Value) : Prop where
  len : mg "len" = none
  abs : mg "abs" = none
  int : mg "int" = none
  max : mg "max" = none
  min : mg "min" = none
  range : mg "range" = none
  list : mg "list" = none
  tuple : mg "tuple" = none
  enumerate : mg "enumerate" = none
  zip : mg "zip" = none
  isinstance : mg "isinstance" = none
  all : mg "all" = none
  bool : mg "bool" = none
  repr : mg "repr" = none
end Lk

set_option Elab.async false
set_option maxRecDepth 100000
set_option maxHeartbeats 1000000
namespace Lk
open PySem L2
abbrev s_law_any : Stmt := top 34
abbrev N_law_any : List Str := ["deal", "bound", "rest"]
abbrev P_law_any : List Str := ["deal", "bound"]
theorem sc_law_any : FnScope N_law_any P_law_any (defScope s_law_any) := ⟨rfl, rfl, rfl, by decide +kernel, rfl, by decide +kernel, by decide +kernel⟩
/-- a number below n is drawn, the deal goes on -/
def spAny : Sp := fun vs H Q _ => ∃ (d l : Addr) (n : Int), vs = [.ref d, .int n] ∧ 0 < n ∧ n < 1073741824 ∧ DealAt H d l ∧
  ∀ (H' : Hp) (r : Int), DealAt H' d l → SB d l H H' → 0 ≤ r → r < n → Q (.int r) H'
section
variable {P : Program} {w : World} {K : PySem.W.Frag} {mg : Str → Option Value} {base : Heap}
theorem last_get {bs : List Int} (h : bs ≠ []) : (bs.map V.int)[(bs.map V.int).length - 1]? = some (V.int (bs.getLast h)) := by
  rw [List.length_map, List.getElem?_map]
  have e : bs[bs.length - 1]? = some (bs.getLast h) := by
    rw [List.getLast_eq_getElem]
    exact List.getElem?_eq_getElem _
  rw [e] <;> rfl
theorem atI_last {bs : List Int} (h : bs ≠ []) : atI (bs.map V.int) (-1) = some (V.int (bs.getLast h)) := by
  have hl : 0 < bs.length := List.length_pos_iff.mpr h
  have e : ixN (bs.map V.int).length (-1) = some ((bs.map V.int).length - 1) := by
    unfold ixN
    rw [if_neg (by decide), if_pos (by rw [List.length_map]; omega)]
    have q : ((-1 : Int) + ((bs.map V.int).length : Int)).toNat = (bs.map V.int).length - 1 := by
      rw [List.length_map]
      omega
    rw [q]
  unfold atI
  rw [e]
  exact last_get h
theorem ok_any {f : Addr} {fd : FuncData} (A0 : Df K mg "_law_any" s_law_any f fd P_law_any) (T : Txt mg) : FnOk P w K mg base CX0 1 f fd P_law_any spAny := by
  refine A0.F.ok sc_law_any (fun vs H Q E h => ?_) (fun cdv A outer s H vs Q E hr h => ?_)
  · obtain ⟨d, l, n, rfl, _⟩ := h
    rfl
  · obtain ⟨d, l, n, rfl, n0, n1, D, k⟩ := h
    have hu : A.units + 3 + 64 < cLine := by have := hr.un; simp only [Around.deeper] at this; omega
    refine ⟨_, (pss_cons (ps_while PassesOwn.never (PW.pt (pw_and (pt_cmpR (op_neD hu) (pe_ix ix_list (pv 0) pe_int (fun _ _ => rfl)) (pe_lst pa_nil) (nomark _)) (pw_and1 (pt_cmpR op_eq (pe_ix ix_list (pe_ix ix_list (pv 0) pe_int (fun _ _ => rfl)) (pe_un un_neg pe_int) (fun _ _ => rfl)) pe_int (nomark _)))))
      (pss_one (ps_expr (pe_bm0 PySem.F.plainAttrs_list PySem.F.slot_list_pop PySem.F.type_list_pop mt_pop (pe_ix ix_list (pv 0) pe_int (fun _ _ => rfl))))))
    (pss_cons (ps_if (pt_cmpR (op_neD hu) (pe_ix ix_list (pv 0) pe_int (fun _ _ => rfl)) (pe_lst pa_nil) (nomark _)) (pss_cons (ps_set (i := 2) sc_law_any.nd rfl (Or.inl rfl) (pe_callTy call_int1 (by rfl) T.int (by decide +kernel) (pa_cons (pe_bm0 PySem.F.plainAttrs_list PySem.F.slot_list_pop PySem.F.type_list_pop mt_pop (pe_ix ix_list (pv 0) pe_int (fun _ _ => rfl))) pa_nil)))
      (pss_cons (ps_expr (pe_bm PySem.F.plainAttrs_list PySem.F.slot_list_append PySem.F.type_list_append mt_append (pe_ix ix_list (pv 0) pe_int (fun _ _ => rfl)) (pa_cons (pe_op op_fdivW (pv 2) (pv 1)) pa_nil)))
      (pss_one (ps_ret (pe_op op_mod (pv 2) (pv 1)))))) pss_nil)
    (pss_cons (ps_asg (pe_op op_mod (pe_callTy call_int1 (by rfl) T.int (by decide +kernel) (pa_cons (pe_op op_add (pe_op op_mul (pe_ix ix_list (pv 0) pe_int (fun _ _ => rfl)) pe_int) pe_int) pa_nil)) pe_int) (pg_sub (pv 0) pe_int set_list))
    (pss_one (ps_ret (pe_op op_mod (pe_callTy call_int1 (by rfl) T.int (by decide +kernel) (pa_cons (pe_op op_fdiv (pe_ix ix_list (pv 0) pe_int (fun _ _ => rfl)) pe_int) pa_nil)) (pv 1))))))), ?_⟩
    obtain ⟨bs0, b0, D0⟩ := D
    refine ⟨fun m σ H1 => σ = [some (.ref d), some (.int n), none] ∧ SB d l H H1 ∧ ∃ bs b, DealIs H1 d l bs b ∧ m = bs.length, ⟨_, rfl, SB.refl _ _ _, bs0, b0, D0, rfl⟩, ?_⟩
    rintro m σ H1 ⟨rfl, S1, bs, b, D1, rfl⟩
    refine ⟨_, rfl, d, _, 0, _, rfl, rfl, SqL.of D1.hd, rfl, Nat.zero_le _, fun p hp => ⟨_, _, Dp.lst (SqL.of (D1.new hp).hl) (dpAll_ints _), Dp.lst (SqL.of upd_same) .nil, shaped_ints _, by decide +kernel, _, rfl, ?_⟩⟩
    have D2 := D1.new (o := HO.lst []) hp
    have S2 : SB d l H _ := S1.trans (SB.new (o := HO.lst []) hp)
    rw [eqv_nil]
    -- behind the loop, with a deal that has great cells left or none
    have after : ∀ (H2 : Hp) (bs : List Int) (b : Int), DealIs H2 d l bs b → SB d l H H2 → (bs = [] ∨ ∃ h : bs ≠ [], bs.getLast h ≠ 0) →
        (tSeq (tIfS (tTest (tOp (rNeD K) (tOp (rIxL K) (tVar 0) (tC (.int 0))) (tLst tNil))) (tSeq (tAsg (tCB (fun xs H Q => (∃ i, xs = [.int i] ∧ Q (.int i) H) ∨ ∃ k, xs = [.bl k] ∧ Q (.int (if k then 1 else 0)) H) (tCons (tBM0 K "list" rPop (tOp (rIxL K) (tVar 0) (tC (.int 0)))) tNil)) (gName 2))
          (tSeq (tDrop (tBM K "list" rAppend (tOp (rIxL K) (tVar 0) (tC (.int 0))) (tCons (tOp (rI CDivW fun i j => .int (i / j)) (tVar 2) (tVar 1)) tNil))) (tRet (tOp (rI (fun _ j => 0 < j) fun i j => .int (i % j)) (tVar 2) (tVar 1))))) tNext)
          (tSeq (tAsg (tOp (rI (fun _ j => 0 < j) fun i j => .int (i % j)) (tCB (fun xs H Q => (∃ i, xs = [.int i] ∧ Q (.int i) H) ∨ ∃ k, xs = [.bl k] ∧ Q (.int (if k then 1 else 0)) H) (tCons (tOp (rI0 fun i j => .int (i + j)) (tOp (rI CMul fun i j => .int (i * j)) (tOp (rIxL K) (tVar 0) (tC (.int 1))) (tC (.int 40693))) (tC (.int 71))) tNil)) (tC (.int 2147483647))) (gSub (tVar 0) (tC (.int 1)) rSetL))
            (tRet (tOp (rI (fun _ j => 0 < j) fun i j => .int (i % j)) (tCB (fun xs H Q => (∃ i, xs = [.int i] ∧ Q (.int i) H) ∨ ∃ k, xs = [.bl k] ∧ Q (.int (if k then 1 else 0)) H) (tCons (tOp (rI CDiv fun i j => .int (i / j)) (tOp (rIxL K) (tVar 0) (tC (.int 1))) (tC (.int 64))) tNil)) (tVar 1)))))
          { nx := fun _ H' => Q .non H', rt := Q } [some (.ref d), some (.int n), none] H2 := by
      intro H2 bs b D1 S1 hb
      refine ⟨_, rfl, d, _, 0, _, rfl, rfl, SqL.of D1.hd, rfl, Nat.zero_le _, fun p hp => ⟨_, _, Dp.lst (SqL.of (D1.new hp).hl) (dpAll_ints _), Dp.lst (SqL.of upd_same) .nil, shaped_ints _, by decide +kernel, _, rfl, ?_⟩⟩
      have D2 := D1.new (o := HO.lst []) hp
      have S2 : SB d l H _ := S1.trans (SB.new (o := HO.lst []) hp)
      rw [eqv_nil]
      cases bs with
      | nil =>
        refine iteF ?_
        have m0 : (0 : Int) ≤ (b * 40693 + 71) % 2147483647 := Int.emod_nonneg _ (by decide)
        have m1 : (b * 40693 + 71) % 2147483647 < 2147483647 := Int.emod_lt_of_pos _ (by decide)
        refine ⟨_, rfl, d, _, 1, _, rfl, rfl, SqL.of D2.hd, rfl, _, _, rfl, rfl, .inr ⟨by decide, by decide⟩, _, _, rfl, rfl, .inl ⟨_, rfl, _, _, rfl, rfl, (by show (0 : Int) < 2147483647; decide), ?_⟩⟩
        refine ⟨_, rfl, d, _, 1, 1, rfl, rfl, D2.hd, rfl, ?_⟩
        refine ⟨_, rfl, d, _, 1, _, rfl, rfl, SqL.of upd_same, rfl, _, _, rfl, rfl, ⟨by decide, by decide⟩, .inl ⟨_, rfl, _, rfl, _, _, rfl, rfl, n0, ?_⟩⟩
        refine k _ _ ⟨[], _, ⟨upd_same, ?_, D2.pos, D2.len, m0, m1⟩⟩ (S2.trans SB.d) (Int.emod_nonneg _ (by omega)) (Int.emod_lt_of_pos _ n0)
        rw [upd_ne D2.ne.symm]
        exact D2.hl
      | cons x xs =>
        refine iteT ?_
        have h0 : (0 : Int) ≤ (x :: xs).getLast (List.cons_ne_nil x xs) := D2.pos _ (List.getLast_mem _)
        refine ⟨_, rfl, d, _, 0, _, rfl, rfl, SqL.of D2.hd, rfl, .inl ⟨rfl, _, SqL.of D2.hl⟩, l, _, _, rfl, rfl, D2.hl, last_get (List.cons_ne_nil x xs), .inl ⟨_, rfl, ?_⟩⟩
        have hd3 : upd (upd H2 p (HO.lst [])) l (HO.lst ((x :: xs).map V.int).dropLast) d = some (.lst [.ref l, .int b]) := by
          rw [upd_ne D2.ne]
          exact D2.hd
        refine ⟨_, rfl, d, _, 0, _, rfl, rfl, SqL.of hd3, rfl, .inl ⟨rfl, _, SqL.of upd_same⟩, _, rfl, _, rfl, _, _, rfl, rfl, wide_div n0 (b := 30) (by omega) (by decide) (by decide), l, _, _, rfl, rfl, upd_same, ?_, ?_⟩
        · have := D2.len
          rw [List.length_dropLast, List.length_map]
          exact Nat.lt_of_le_of_lt (by omega : _ ≤ 48) (by decide)
        · refine ⟨_, rfl, _, rfl, _, _, rfl, rfl, n0, ?_⟩
          refine k _ _ ⟨(x :: xs).dropLast ++ [(x :: xs).getLast (List.cons_ne_nil x xs) / n], b, ⟨?_, ?_, ?_, ?_, D2.b0, D2.b1⟩⟩ ((S2.trans SB.l).trans SB.l) (Int.emod_nonneg _ (by omega)) (Int.emod_lt_of_pos _ n0)
          · rw [upd_ne D2.ne]
            exact hd3
          · rw [upd_same, List.map_append, List.map_dropLast]
            rfl
          · intro y hy
            rcases List.mem_append.mp hy with h | h
            · exact D2.pos y (List.dropLast_subset _ h)
            · rw [List.mem_singleton.mp h]
              exact Int.ediv_nonneg h0 (by omega)
          · have := D2.len
            rw [List.length_append, List.length_dropLast]
            simp only [List.length_cons, List.length_nil] at this ⊢
            omega
    cases bs with
    | nil => exact iteF (after _ [] b D2 S2 (.inl rfl))
    | cons x xs =>
      refine iteT ?_
      refine ⟨_, rfl, d, _, 0, _, rfl, rfl, SqL.of D2.hd, rfl, _, rfl, l, _, -1, _, rfl, rfl, SqL.of D2.hl, atI_last (List.cons_ne_nil x xs), rfl, _, rfl, ?_⟩
      refine ite2 (fun h => ?_) (fun h => ?_)
      · refine ⟨fun σ' H' => ∃ m', m' < (x :: xs).length ∧ (σ' = [some (.ref d), some (.int n), none] ∧ SB d l H H' ∧ ∃ bs b, DealIs H' d l bs b ∧ m' = bs.length), fun _ _ h => h, ?_⟩
        refine ⟨_, rfl, d, _, 0, _, rfl, rfl, SqL.of D2.hd, rfl, .inl ⟨rfl, _, SqL.of D2.hl⟩, l, _, _, rfl, rfl, D2.hl, last_get (List.cons_ne_nil x xs), ?_⟩
        refine ⟨(x :: xs).dropLast.length, by rw [List.length_dropLast]; simp, rfl, S2.trans SB.l, (x :: xs).dropLast, b, ⟨?_, ?_, fun y hy => D2.pos y (List.dropLast_subset _ hy), ?_, D2.b0, D2.b1⟩, rfl⟩
        · rw [upd_ne D2.ne]
          exact D2.hd
        · rw [upd_same, List.map_dropLast]
        · have := D2.len
          rw [List.length_dropLast]
          omega
      · refine after _ (x :: xs) b D2 S2 (.inr ⟨List.cons_ne_nil x xs, fun e => h ?_⟩)
        rw [e]
        rfl
end
end Lk

set_option Elab.async false
set_option maxRecDepth 100000
set_option maxHeartbeats 1000000
namespace Lk
open PySem L2
/-! ### what stands but at some places -/
def KP (S : Addr → Prop) (H H' : Hp) : Prop := ∀ a o, H a = some o → ¬ S a → H' a = some o
def dl (d l : Addr) : Addr → Prop := fun a => a = d ∨ a = l
theorem SB.kp {d l : Addr} {H H' : Hp} (x : SB d l H H') : KP (dl d l) H H' := fun a o h n => x a o h (fun e => n (.inl e)) fun e => n (.inr e)
theorem KP.sb {d l : Addr} {H H' : Hp} (x : KP (dl d l) H H') : SB d l H H' := fun a o h n m => x a o h fun e => e.elim n m
theorem KP.refl (S : Addr → Prop) (H : Hp) : KP S H H := fun _ _ h _ => h
theorem KP.trans {S : Addr → Prop} {H H1 H2 : Hp} (x : KP S H H1) (y : KP S H1 H2) : KP S H H2 := fun a o h n => y a o (x a o h n) n
theorem KP.new {S : Addr → Prop} {H : Hp} {p : Addr} {o : HO} (h : H p = none) : KP S H (upd H p o) := fun a u e _ => by
  rw [upd_ne (ne_of_none e h)]
  exact e
theorem KP.mut {S : Addr → Prop} {H H1 : Hp} {p : Addr} {o : HO} (x : KP S H H1) (h : H p = none) : KP S H (upd H1 p o) := fun a u e n => by
  rw [upd_ne (ne_of_none e h)]
  exact x a u e n
theorem KP.same {S : Addr → Prop} {H H1 : Hp} (x : Same H H1) : KP S H H1 := fun a o h _ => x a o h
theorem KP.free {S : Addr → Prop} {H H1 : Hp} {p : Addr} (x : KP S H H1) (n : ¬ S p) (h : H1 p = none) : H p = none := by
  cases e : H p with
  | none => rfl
  | some o =>
    rw [x p o e n] at h
    cases h
theorem KP.get {S : Addr → Prop} {H H1 : Hp} {p : Addr} {o : HO} (x : KP S H H1) (n : ¬ S p) (h : H p = some o) : H1 p = some o := x p o h n
theorem KP.weak {S S' : Addr → Prop} {H H1 : Hp} (x : KP S H H1) (h : ∀ a, S a → S' a) : KP S' H H1 := fun a o e n => x a o e fun q => n (h a q)
theorem kp_upd {S : Addr → Prop} {H : Hp} {p : Addr} {o : HO} (h : S p) : KP S H (upd H p o) := fun a u e n => by
  rw [upd_ne fun q => n (by rw [q]; exact h)]
  exact e
theorem DealIs.out {H H' : Hp} {d l : Addr} {bs : List Int} {b : Int} (x : DealIs H d l bs b) (h1 : H' d = H d) (h2 : H' l = H l) : DealIs H' d l bs b :=
  ⟨h1.trans x.hd, h2.trans x.hl, x.pos, x.len, x.b0, x.b1⟩
theorem DealAt.out {H H' : Hp} {d l : Addr} (x : DealAt H d l) (h1 : H' d = H d) (h2 : H' l = H l) : DealAt H' d l := by
  obtain ⟨bs, b, y⟩ := x
  exact ⟨bs, b, y.out h1 h2⟩
theorem DealAt.upd {H : Hp} {d l p : Addr} {o : HO} (x : DealAt H d l) (n : ¬ dl d l p) : DealAt (upd H p o) d l :=
  x.out (upd_ne fun e => n (.inl e.symm)) (upd_ne fun e => n (.inr e.symm))
theorem DealAt.free {H : Hp} {d l p : Addr} (x : DealAt H d l) (h : H p = none) : ¬ dl d l p := fun e => by
  obtain ⟨bs, b, y⟩ := x
  rcases e with e | e
  · rw [e, y.hd] at h
    cases h
  · rw [e, y.hl] at h
    cases h

/-! ### comprehensions whose turns may draw -/
theorem wipe1 (σ : St) (j : Nat) (x : Option V) : wipe ((wipe σ [j]).set j x) [j] = wipe σ [j] := by
  show (((σ.set j none).set j x).set j none) = σ.set j none
  rw [List.set_set, List.set_set]
section
variable {K : PySem.W.Frag} {j : Nat} {te : TE} {σ : St} {H1 : Hp} {D : Addr} {Qd : Hp → Prop}
/-- what a comprehension keeps: D holds what is made so far -/
def Lcp (S : Addr → Prop) (I : Hp → Prop) (f : Nat → V → Hp → Prop) (H1 : Hp) (D : Addr) (i : Nat) (H : Hp) : Prop :=
  I H ∧ KP S H1 H ∧ ∃ ys : List V, H D = some (.lst ys) ∧ ys.length = i ∧ ∀ k y, ys[k]? = some y → f k y H
theorem Lcp.step {S : Addr → Prop} {I : Hp → Prop} {f : Nat → V → Hp → Prop} {i : Nat} {H H4 : Hp} {y : V} (hD : H1 D = none) (hS : ¬ S D) (mI : ∀ H o, I H → I (upd H D o)) (mf : ∀ i y H H', KP (fun a => S a ∨ a = D) H H' → f i y H → f i y H')
    (hi : i < 1000000) (x : Lcp S I f H1 D i H) (h1 : I H4) (h2 : KP S H H4) (h3 : f i y H4) : ∃ acc, H4 D = some (.lst acc) ∧ acc.length < sizeLine ∧ Lcp S I f H1 D (i + 1) (upd H4 D (.lst (acc ++ [y]))) := by
  obtain ⟨_, k1, ys, e, hl, hf⟩ := x
  refine ⟨ys, h2.get hS e, by rw [hl]; exact Nat.lt_trans hi (by decide), mI _ _ h1, (k1.trans h2).mut hD, ys ++ [y], upd_same, by rw [List.length_append, hl]; rfl, fun k z hz => ?_⟩
  have m1 : KP (fun a => S a ∨ a = D) H4 (upd H4 D (.lst (ys ++ [y]))) := kp_upd (.inr rfl)
  by_cases hk : k < ys.length
  · rw [List.getElem?_append_left hk] at hz
    exact mf _ _ _ _ ((h2.weak fun a q => .inl q).trans m1) (hf k z hz)
  · rw [List.getElem?_append_right (by omega)] at hz
    have hk0 : k - ys.length = 0 := by
      cases q : k - ys.length with
      | zero => rfl
      | succ m => rw [q] at hz; simp at hz
    rw [hk0] at hz
    have ez : y = z := Option.some.inj hz
    rw [← ez, show k = i by omega]
    exact mf _ _ _ _ m1 h3
theorem Lcp.zero {S : Addr → Prop} {I : Hp → Prop} {f : Nat → V → Hp → Prop} (hD : H1 D = none) (mI : ∀ H o, I H → I (upd H D o)) (h : I H1) : Lcp S I f H1 D 0 (upd H1 D (.lst [])) :=
  ⟨mI _ _ h, KP.new hD, [], upd_same, rfl, fun k y e => by simp at e⟩
theorem lcR {lo : Int} {n : Nat} (S : Addr → Prop) (I : Hp → Prop) (f : Nat → V → Hp → Prop) (hD : H1 D = none) (hS : ¬ S D) (hn : n ≤ 1000000) (hI : I H1) (mI : ∀ H o, I H → I (upd H D o))
    (mf : ∀ i y H H', KP (fun a => S a ∨ a = D) H H' → f i y H → f i y H')
    (hs : ∀ i H acc, i < n → I H → KP S H1 H → H D = some (.lst acc) → ∀ Q : VK, (∀ y H4, I H4 → KP S H H4 → f i y H4 → Q y H4) → te ((wipe σ [j]).set j (some (.int (lo + i)))) H Q)
    (hd : ∀ ys H', ys.length = n → (∀ i y, ys[i]? = some y → f i y H') → H' D = some (.lst ys) → I H' → KP S H1 H' → Qd H') :
    ∃ W : Nat → Nat → Hp → Prop, (∃ m, W 0 m (upd H1 D (.lst []))) ∧ ∀ i m H, W i m H →
      ((Itr lo n).stop i H ∧ Qd H) ∨ ((Itr lo n).go i H ∧ ∃ Nx : Hp → Prop, (∀ H', Nx H' → ∃ m', m' < m ∧ W (i + 1) m' H') ∧ ∀ x H', (Itr lo n).yld i H x H' → gName j x (wipe σ [j]) H' fun σ2 H2 => wipe σ2 [j] = wipe σ [j] ∧ tYes σ2 H2 fun b H3 =>
        if b = true then te σ2 H3 fun y H4 => ∃ acc, H4 D = some (.lst acc) ∧ acc.length < sizeLine ∧ Nx (upd H4 D (.lst (acc ++ [y]))) else Nx H3) := by
  refine lc_range (Lcp S I f H1 D) (Lcp.zero hD mI hI) (fun i H hi x => ?_) (fun H x => ?_)
  · refine ⟨wipe1 _ _ _, iteT (B := Lcp S I f H1 D (i + 1) H) ?_⟩
    obtain ⟨acc, e⟩ : ∃ acc, H D = some (.lst acc) := by
      obtain ⟨_, _, ys, e, _⟩ := x
      exact ⟨ys, e⟩
    exact hs i H acc hi x.1 x.2.1 e _ fun y H4 h1 h2 h3 => x.step hD hS mI mf (by omega) h1 h2 h3
  · obtain ⟨h1, h2, ys, e, hl, hf⟩ := x
    exact hd ys H hl hf e h1 h2
theorem lcL {a : Addr} {xs : List V} (S : Addr → Prop) (I : Hp → Prop) (f : Nat → V → Hp → Prop) (hD : H1 D = none) (hS : ¬ S D) (hn : xs.length ≤ 1000000) (hI : I H1) (mI : ∀ H o, I H → I (upd H D o))
    (mf : ∀ i y H H', KP (fun a => S a ∨ a = D) H H' → f i y H → f i y H') (ha : ∀ H, KP S H1 H → SqL K H a xs)
    (hs : ∀ i x H acc, xs[i]? = some x → I H → KP S H1 H → H D = some (.lst acc) → ∀ Q : VK, (∀ y H4, I H4 → KP S H H4 → f i y H4 → Q y H4) → te ((wipe σ [j]).set j (some x)) H Q)
    (hd : ∀ ys H', ys.length = xs.length → (∀ i y, ys[i]? = some y → f i y H') → H' D = some (.lst ys) → I H' → KP S H1 H' → Qd H') :
    ∃ W : Nat → Nat → Hp → Prop, (∃ m, W 0 m (upd H1 D (.lst []))) ∧ ∀ i m H, W i m H →
      ((Itl K a).stop i H ∧ Qd H) ∨ ((Itl K a).go i H ∧ ∃ Nx : Hp → Prop, (∀ H', Nx H' → ∃ m', m' < m ∧ W (i + 1) m' H') ∧ ∀ x H', (Itl K a).yld i H x H' → gName j x (wipe σ [j]) H' fun σ2 H2 => wipe σ2 [j] = wipe σ [j] ∧ tYes σ2 H2 fun b H3 =>
        if b = true then te σ2 H3 fun y H4 => ∃ acc, H4 D = some (.lst acc) ∧ acc.length < sizeLine ∧ Nx (upd H4 D (.lst (acc ++ [y]))) else Nx H3) := by
  refine lc_list (xs := xs) (Lcp S I f H1 D) (Lcp.zero hD mI hI) (fun i H _ x => ha H x.2.1) (fun i x0 H hi x => ?_) (fun H x => ?_)
  · have hi' : i < xs.length := (List.getElem?_eq_some_iff.mp hi).1
    refine ⟨wipe1 _ _ _, iteT (B := Lcp S I f H1 D (i + 1) H) ?_⟩
    obtain ⟨acc, e⟩ : ∃ acc, H D = some (.lst acc) := by
      obtain ⟨_, _, ys, e, _⟩ := x
      exact ⟨ys, e⟩
    exact hs i x0 H acc hi x.1 x.2.1 e _ fun y H4 h1 h2 h3 => x.step hD hS mI mf (by omega) h1 h2 h3
  · obtain ⟨h1, h2, ys, e, hl, hf⟩ := x
    exact hd ys H hl hf e h1 h2
end
end Lk

set_option Elab.async false
set_option maxRecDepth 100000
set_option maxHeartbeats 1000000
namespace Lk
open PySem L2
abbrev s_law_of : Stmt := top 35
abbrev N_law_of : List Str := ["deal", "some"]
abbrev P_law_of : List Str := ["deal", "some"]
theorem sc_law_of : FnScope N_law_of P_law_of (defScope s_law_of) := ⟨rfl, rfl, rfl, by decide +kernel, rfl, by decide +kernel, by decide +kernel⟩
abbrev s_law_mixed : Stmt := top 36
abbrev N_law_mixed : List Str := ["deal", "some", "left", "found"]
abbrev P_law_mixed : List Str := ["deal", "some"]
theorem sc_law_mixed : FnScope N_law_mixed P_law_mixed (defScope s_law_mixed) := ⟨rfl, rfl, rfl, by decide +kernel, rfl, by decide +kernel, by decide +kernel⟩
/-- some item of the list -/
def spOf : Sp := fun vs H Q _ => ∃ (d l a : Addr) (xs : List V), vs = [.ref d, .ref a] ∧ H a = some (.lst xs) ∧ ¬ dl d l a ∧ 0 < xs.length ∧ xs.length ≤ 1000 ∧ DealAt H d l ∧
  ∀ (H' : Hp) (i : Nat) (v : V), DealAt H' d l → SB d l H H' → xs[i]? = some v → Q v H'
/-- the ints of a list in some order, in a new list -/
def spMixed (K : PySem.W.Frag) : Sp := fun vs H Q _ => ∃ (d l a : Addr) (ns : List Int), vs = [.ref d, .ref a] ∧ SqL K H a (ns.map V.int) ∧ ns.length ≤ 1000 ∧ DealAt H d l ∧
  ∀ (H' : Hp) (p : Addr) (ms : List Int), DealAt H' d l → SB d l H H' → H p = none → H' p = some (.lst (ms.map V.int)) → ms.Perm ns → Q (.ref p) H'
section
variable {P : Program} {w : World} {K : PySem.W.Frag} {mg : Str → Option Value} {base : Heap}
theorem atI_int {α : Type} {xs : List α} {r : Int} {v : α} (h0 : 0 ≤ r) (h : xs[r.toNat]? = some v) : atI xs r = some v := by
  obtain ⟨n, rfl⟩ := Int.eq_ofNat_of_zero_le h0
  exact atI_nat h
theorem eraseIdx_map {α β : Type} (g : α → β) : ∀ (xs : List α) (i : Nat), (xs.map g).eraseIdx i = (xs.eraseIdx i).map g
  | [], _ => rfl
  | _ :: _, 0 => rfl
  | _ :: xs, i + 1 => congrArg (_ :: ·) (eraseIdx_map g xs i)
theorem perm_erase {α : Type} : ∀ {xs : List α} {i : Nat} (h : i < xs.length), ([xs[i]] ++ xs.eraseIdx i).Perm xs
  | [], _, h => absurd h (Nat.not_lt_zero _)
  | x :: xs, 0, _ => List.Perm.refl _
  | x :: xs, i + 1, h => by
    have h' : i < xs.length := Nat.lt_of_succ_lt_succ h
    have ih := perm_erase (xs := xs) (i := i) h'
    show ([xs[i]] ++ (x :: xs.eraseIdx i)).Perm (x :: xs)
    exact (List.Perm.swap x xs[i] (xs.eraseIdx i)).trans (ih.cons x)
theorem ok_of {f fa : Addr} {fd fda : FuncData} (A0 : Df K mg "_law_of" s_law_of f fd P_law_of) (d_law_any : Df K mg "_law_any" s_law_any fa fda P_law_any) (T : Txt mg) : FnOk P w K mg base CX0 2 f fd P_law_of spOf := by
  have G_law_any : FnOk P w K mg base CX0 1 fa fda P_law_any spAny := ok_any d_law_any T
  refine A0.F.ok sc_law_of (fun vs H Q E h => ?_) (fun cdv A outer s H vs Q E hr h => ?_)
  · obtain ⟨d, l, a, xs, rfl, _⟩ := h
    rfl
  · obtain ⟨d, l, a, xs, rfl, hx, na, h0, h1, D, k⟩ := h
    refine ⟨_, (pss_one (ps_ret (pe_ix ix_list (pv 1) (pe_call G_law_any (hr.mono (by decide)) rfl d_law_any.g d_law_any.F.kp d_law_any.b .nil pass0 (pa_cons (pv 0) (pa_cons (pe_callB call_len_seq (by rfl) T.len PySem.boot_len (pa_cons (pv 1) pa_nil)) pa_nil))) (fun _ _ => rfl)))), ?_⟩
    refine ⟨_, rfl, _, rfl, _, rfl, a, xs, rfl, .inl (SqL.of hx), d, l, _, rfl, by omega, by omega, D, fun H' r D' S' r0 r1 => ?_⟩
    have hx' : H' a = some (.lst xs) := S'.kp.get na hx
    have hi : r.toNat < xs.length := by omega
    refine ⟨a, xs, r, xs[r.toNat], rfl, rfl, SqL.of hx', ?_, ?_⟩
    · exact atI_int r0 (List.getElem?_eq_getElem hi)
    · exact k H' r.toNat _ D' S' (List.getElem?_eq_getElem hi)
theorem ok_mixed {f fa : Addr} {fd fda : FuncData} (A0 : Df K mg "_law_mixed" s_law_mixed f fd P_law_mixed) (d_law_any : Df K mg "_law_any" s_law_any fa fda P_law_any) (T : Txt mg) : FnOk P w K mg base CX0 2 f fd P_law_mixed (spMixed K) := by
  have G_law_any : FnOk P w K mg base CX0 1 fa fda P_law_any spAny := ok_any d_law_any T
  refine A0.F.ok sc_law_mixed (fun vs H Q E h => ?_) (fun cdv A outer s H vs Q E hr h => ?_)
  · obtain ⟨d, l, a, xs, rfl, _⟩ := h
    rfl
  · obtain ⟨d, l, a, ns, rfl, hx, h1, D, k⟩ := h
    have hu : A.units + 3 + 64 < cLine := by have := hr.un; simp only [Around.deeper] at this; omega
    refine ⟨_, (pss_cons (ps_par (i := 2) (j := 3) rfl sc_law_mixed.nd rfl rfl (by decide) rfl rfl (pa_cons (pe_callTy call_list_of (by rfl) T.list (by decide +kernel) (pa_cons (pv 1) pa_nil)) (pa_cons (pe_lst pa_nil) pa_nil)) rfl)
    (pss_cons (ps_while PassesOwn.never (pt_cmpR (op_neD hu) (pv 2) (pe_lst pa_nil) (nomark _))
      (pss_one (ps_expr (pe_bm PySem.F.plainAttrs_list PySem.F.slot_list_append PySem.F.type_list_append mt_append (pv 3) (pa_cons (pe_bm PySem.F.plainAttrs_list PySem.F.slot_list_pop PySem.F.type_list_pop mt_popAt (pv 2) (pa_cons (pe_call G_law_any (hr.mono (by decide)) rfl d_law_any.g d_law_any.F.kp d_law_any.b .nil pass0 (pa_cons (pv 0) (pa_cons (pe_callB call_len_seq (by rfl) T.len PySem.boot_len (pa_cons (pv 2) pa_nil)) pa_nil))) pa_nil)) pa_nil)))))
    (pss_one (ps_ret (pv 3))))), ?_⟩
    refine ⟨_, rfl, a, _, rfl, .inl hx, fun q hq => ⟨Nat.zero_le _, fun r hr0 => ⟨_, _, rfl, ?_⟩⟩⟩
    have nqr : q ≠ r := fun e => by rw [← e, upd_same] at hr0; cases hr0
    have q0 : H q = none := hq
    have r0 : H r = none := by rw [upd_ne nqr.symm] at hr0; exact hr0
    refine ⟨fun m σ H1 => ∃ ls fs : List Int, σ = [some (.ref d), some (.ref a), some (.ref q), some (.ref r)] ∧ DealAt H1 d l ∧ SB d l H H1 ∧ H1 q = some (.lst (ls.map V.int)) ∧ H1 r = some (.lst (fs.map V.int)) ∧ (fs ++ ls).Perm ns ∧ m = ls.length,
      ⟨_, ns, [], rfl, ?_, ?_, ?_, ?_, List.Perm.refl _, rfl⟩, ?_⟩
    · exact (D.new hq).new hr0
    · exact ((KP.new (S := dl d l) hq).trans (KP.new hr0)).sb
    · rw [upd_ne nqr, upd_same]
    · rw [upd_same]
      rfl
    · rintro m σ H1 ⟨ls, fs, rfl, D1, S1, hq1, hr1, hp, rfl⟩
      refine ⟨_, rfl, Nat.zero_le _, fun z hz => ⟨_, _, Dp.lst (SqL.of (by rw [upd_ne (ne_of_none hq1 hz)]; exact hq1)) (dpAll_ints _), Dp.lst (SqL.of upd_same) .nil, shaped_ints _, by decide +kernel, _, rfl, ?_⟩⟩
      have D2 := D1.new (o := HO.lst []) hz
      have S2 : SB d l H _ := S1.trans (SB.new (o := HO.lst []) hz)
      have hq2 : upd H1 z (HO.lst []) q = some (.lst (ls.map V.int)) := by rw [upd_ne (ne_of_none hq1 hz)]; exact hq1
      have hr2 : upd H1 z (HO.lst []) r = some (.lst (fs.map V.int)) := by rw [upd_ne (ne_of_none hr1 hz)]; exact hr1
      rw [eqv_nil]
      have nq : ¬ dl d l q := D.free q0
      have nr : ¬ dl d l r := D.free r0
      cases ls with
      | nil =>
        refine iteF ?_
        refine ⟨_, rfl, ?_⟩
        rw [List.append_nil] at hp
        exact k _ r fs D2 S2 r0 hr2 hp
      | cons x xs =>
        refine iteT ⟨fun σ' H' => ∃ m', m' < (x :: xs).length ∧ ∃ ls fs : List Int, σ' = [some (.ref d), some (.ref a), some (.ref q), some (.ref r)] ∧ DealAt H' d l ∧ SB d l H H' ∧ H' q = some (.lst (ls.map V.int)) ∧ H' r = some (.lst (fs.map V.int)) ∧ (fs ++ ls).Perm ns ∧ m' = ls.length, fun _ _ h => h, ?_⟩
        have hlen : (x :: xs).length ≤ 1000 := by
          have := hp.length_eq
          rw [List.length_append] at this
          omega
        refine ⟨_, rfl, .inl ⟨rfl, _, SqL.of hr2⟩, _, rfl, .inl ⟨rfl, _, SqL.of hq2⟩, _, rfl, _, rfl, q, _, rfl, .inl (SqL.of hq2), d, l, _, rfl, by rw [List.length_map]; simp, by rw [List.length_map]; omega, D2, fun H3 i D3 S3 i0 i1 => ?_⟩
        rw [List.length_map] at i1
        have hi : i.toNat < (x :: xs).length := by omega
        have hq3 : H3 q = some (.lst ((x :: xs).map V.int)) := S3.kp.get nq hq2
        have hr3 : H3 r = some (.lst (fs.map V.int)) := S3.kp.get nr hr2
        refine ⟨q, _, i, i.toNat, V.int (x :: xs)[i.toNat], rfl, rfl, hq3, by omega, by omega, seqIndex_of i0 (by rw [List.length_map]; exact i1), ?_, ?_⟩
        · rw [List.getElem?_map, List.getElem?_eq_getElem hi]
          rfl
        · refine ⟨r, _, _, rfl, rfl, by rw [upd_ne nqr.symm]; exact hr3, ?_, ?_⟩
          · have := hp.length_eq
            rw [List.length_append] at this
            rw [List.length_map]
            exact Nat.lt_of_le_of_lt (by omega : _ ≤ 1000) (by decide)
          · refine ⟨((x :: xs).eraseIdx i.toNat).length, ?_, (x :: xs).eraseIdx i.toNat, fs ++ [(x :: xs)[i.toNat]], rfl, ?_, ?_, ?_, ?_, ?_, rfl⟩
            · rw [List.length_eraseIdx, if_pos hi]
              omega
            · exact (D3.upd nq).upd nr
            · exact (((S2.trans S3).kp.mut q0).mut r0).sb
            · rw [upd_ne nqr, upd_same, eraseIdx_map]
            · rw [upd_same, List.map_append]
              rfl
            · rw [List.append_assoc]
              refine (List.Perm.append_left fs ?_).trans hp
              exact perm_erase hi
end
end Lk

set_option Elab.async false
set_option maxRecDepth 100000
set_option maxHeartbeats 1000000
namespace Lk
open PySem L2
/-! ### lists of lists of ints -/
theorem collect {τ : Type} {g : τ → V} : ∀ {ys : List V} {Φ : Nat → τ → Prop}, (∀ i y, ys[i]? = some y → ∃ t, y = g t ∧ Φ i t) → ∃ ts : List τ, ys = ts.map g ∧ ∀ i t, ts[i]? = some t → Φ i t
  | [], _, _ => ⟨[], rfl, fun i t h => by simp at h⟩
  | y :: ys, Φ, h => by
    obtain ⟨t, rfl, h0⟩ := h 0 y rfl
    obtain ⟨ts, rfl, h1⟩ := collect (ys := ys) (Φ := fun i => Φ (i + 1)) fun i y e => h (i + 1) y e
    refine ⟨t :: ts, rfl, fun i u e => ?_⟩
    cases i with
    | zero =>
      have e' : t = u := Option.some.inj e
      rw [← e']
      exact h0
    | succ i => exact h1 i u e
structure GridAt (H : Hp) (p : Addr) (ts : List (Addr × List Int)) : Prop where
  top : H p = some (.lst (ts.map fun t => V.ref t.1))
  row : ∀ t ∈ ts, H t.1 = some (.lst (t.2.map V.int))
structure NewG (H : Hp) (p : Addr) (ts : List (Addr × List Int)) : Prop where
  top : H p = none
  row : ∀ t ∈ ts, H t.1 = none
theorem GridAt.kp {S : Addr → Prop} {H H' : Hp} {p : Addr} {ts : List (Addr × List Int)} (x : GridAt H p ts) (k : KP S H H') (h : ¬ S p) (hr : ∀ t ∈ ts, ¬ S t.1) : GridAt H' p ts :=
  ⟨k.get h x.top, fun t ht => k.get (hr t ht) (x.row t ht)⟩
theorem GridAt.same {H H' : Hp} {p : Addr} {ts : List (Addr × List Int)} (x : GridAt H p ts) (k : Same H H') : GridAt H' p ts := ⟨k _ _ x.top, fun t ht => k _ _ (x.row t ht)⟩
theorem KP.toSame {H H' : Hp} (x : KP (fun _ => False) H H') : Same H H' := fun a o h => x a o h id
theorem mem_of_get {α : Type} {xs : List α} {i : Nat} {x : α} (h : xs[i]? = some x) : x ∈ xs := List.mem_of_getElem? h
abbrev s_law_columns : Stmt := top 37
abbrev N_law_columns : List Str := ["columns", "column", "state"]
abbrev P_law_columns : List Str := ["columns"]
theorem sc_law_columns : FnScope N_law_columns P_law_columns (defScope s_law_columns) := ⟨rfl, rfl, rfl, by decide +kernel, rfl, by decide +kernel, by decide +kernel⟩
/-- columns turned into rows: of each row the length, and where its ints come from -/
def spColumns : Sp := fun vs H Q _ => ∃ (a : Addr) (ts : List (Addr × List Int)) (n : Nat), vs = [.ref a] ∧ GridAt H a ts ∧ 0 < ts.length ∧ ts.length ≤ 1000 ∧ n ≤ 1000 ∧ (∀ t ∈ ts, t.2.length = n) ∧
  ∀ (H' : Hp) (p : Addr) (us : List (Addr × List Int)), Same H H' → NewG H p us → GridAt H' p us → us.length = n → (∀ u ∈ us, u.2.length = ts.length ∧ ∀ z ∈ u.2, ∃ t ∈ ts, z ∈ t.2) → Q (.ref p) H'
section
variable {P : Program} {w : World} {K : PySem.W.Frag} {mg : Str → Option Value} {base : Heap}
theorem ok_columns {f : Addr} {fd : FuncData} (A0 : Df K mg "_law_columns" s_law_columns f fd P_law_columns) (T : Txt mg) : FnOk P w K mg base CX0 1 f fd P_law_columns spColumns := by
  refine A0.F.ok sc_law_columns (fun vs H Q E h => ?_) (fun cdv A outer s H vs Q E hr h => ?_)
  · obtain ⟨a, ts, n, rfl, _⟩ := h
    rfl
  · obtain ⟨a, ts, n, rfl, G, t0, t1, n1, hn, k⟩ := h
    refine ⟨_, (pss_one (ps_ret (pe_lc (own := [("state", 2)]) (g := gName 2) (tt := tYes) (te := tLc (iList K (tVar 0)) (gName 1) tYes (tOp (rIxL K) (tVar 1) (tVar 2)) [1]) rfl sc_law_columns.nd (pi_range1 rfl T.range (pa_cons (pe_callB call_len_seq (by rfl) T.len PySem.boot_len (pa_cons (pe_ix ix_list (pv 0) pe_int (fun _ _ => rfl)) pa_nil)) pa_nil)) (blkOk_by (N := N_law_columns) (sc := defScope s_law_columns) (by decide +kernel)) (fun _ _ _ _ _ => (pg_name (i := 2) sc_law_columns.nd rfl (Or.inr rfl))) (fun _ _ _ _ _ => pts_nil)
      (fun _ _ _ _ _ => (pe_lc (own := [("column", 1)]) (wi := iList K (tVar 0)) (g := gName 1) (tt := tYes) (te := tOp (rIxL K) (tVar 1) (tVar 2)) rfl sc_law_columns.nd (pi_list (pv 0)) (blkOk_by (N := N_law_columns) (sc := { kind := .function, names := [(".0", .local), ("state", .cell), ("columns", .cell)], isGenerator := false, isCoroutine := false }) (by decide +kernel)) (fun _ _ _ _ _ => (pg_name (i := 1) sc_law_columns.nd rfl (Or.inl rfl))) (fun _ _ _ _ _ => pts_nil) (fun _ _ _ _ _ => (pe_ix ix_list (pv 1) (pv 2) (fun _ _ => rfl)))))))), ?_⟩
    obtain ⟨u0, us, rfl⟩ : ∃ u0 us, ts = u0 :: us := by
      cases ts with
      | nil => simp at t0
      | cons u0 us => exact ⟨u0, us, rfl⟩
    have h00 := hn u0 List.mem_cons_self
    refine ⟨_, rfl, a, _, 0, V.ref u0.1, rfl, rfl, SqL.of G.top, atI_int (by decide) rfl, u0.1, _, rfl, .inl (SqL.of (G.row u0 List.mem_cons_self)), _, rfl, by omega, by rw [List.length_map]; omega, fun D hD => ?_⟩
    rw [List.length_map, h00]
    refine lcR (fun _ => False) (fun _ => True) (fun i y H' => ∃ t : Addr × List Int, y = V.ref t.1 ∧ H t.1 = none ∧ t.1 ≠ D ∧ H' t.1 = some (.lst (t.2.map V.int)) ∧ t.2.length = (u0 :: us).length ∧ ∀ z ∈ t.2, ∃ q ∈ (u0 :: us), z ∈ q.2)
      hD id (by simp; omega) trivial (fun _ _ _ => trivial) (fun i y H1 H2 kp ⟨t, e, h1, h2, h3, h4⟩ => ⟨t, e, h1, h2, kp.get (fun q => q.elim id h2) h3, h4⟩) (fun i H1 acc hi _ k1 hD1 Q1 kQ => ?_) (fun ys H' hl hf hD' _ kp => ?_)
    · simp at hi
      have G1 : GridAt H1 a (u0 :: us) := G.same k1.toSame
      refine ⟨_, rfl, a, rfl, ⟨_, SqL.of G1.top⟩, fun D2 hD2 => ?_⟩
      refine lcL (xs := (u0 :: us).map fun t => V.ref t.1) (fun _ => False) (fun _ => True) (fun i y _ => ∃ z : Int, y = V.int z ∧ ∃ q ∈ (u0 :: us), z ∈ q.2) hD2 id (by rw [List.length_map]; omega) trivial (fun _ _ _ => trivial) (fun _ _ _ _ _ x => x) (fun H2 kp => SqL.of (kp.get id G1.top))
        (fun j x H2 acc2 hj _ k2 _ Q2 kQ2 => ?_) (fun ys2 H3 hl2 hf2 hD3 _ kp3 => ?_)
      · rw [List.getElem?_map] at hj
        obtain ⟨t, ht, rfl⟩ : ∃ t, (u0 :: us)[j]? = some t ∧ V.ref t.1 = x := by
          cases e : (u0 :: us)[j]? with
          | none => rw [e] at hj; cases hj
          | some t => rw [e] at hj; exact ⟨t, rfl, Option.some.inj hj⟩
        have hm := mem_of_get ht
        have hlt : i < t.2.length := by rw [hn t hm]; exact hi
        refine ⟨_, rfl, _, rfl, t.1, _, _, V.int t.2[i], rfl, rfl, SqL.of (k2.get id (G1.row t hm)), ?_, kQ2 _ _ trivial (KP.refl _ _) ⟨_, rfl, t, hm, List.getElem_mem hlt⟩⟩
        refine atI_int (by omega) ?_
        have e : ((0 : Int) + (i : Int)).toNat = i := by omega
        rw [e, List.getElem?_map, List.getElem?_eq_getElem hlt]
        rfl
      · obtain ⟨zs, rfl, hz⟩ := collect (g := V.int) hf2
        refine kQ _ _ trivial kp3 ⟨(D2, zs), rfl, k1.free id hD2, fun e => ?_, hD3, by rw [List.length_map] at hl2; rw [hl2, List.length_map], fun z hz' => ?_⟩
        · have e' : D2 = D := e
          rw [e', hD1] at hD2
          cases hD2
        · obtain ⟨j, hj⟩ := List.getElem?_of_mem hz'
          exact hz j z hj
    · obtain ⟨vs, rfl, hv⟩ := collect (g := fun t : Addr × List Int => V.ref t.1) hf
      have hv' : ∀ t ∈ vs, H t.1 = none ∧ t.1 ≠ D ∧ H' t.1 = some (.lst (t.2.map V.int)) ∧ t.2.length = (u0 :: us).length ∧ ∀ z ∈ t.2, ∃ q ∈ (u0 :: us), z ∈ q.2 := fun t ht => by
        obtain ⟨j, hj⟩ := List.getElem?_of_mem ht
        exact hv j t hj
      refine k H' D vs kp.toSame ⟨hD, fun t ht => (hv' t ht).1⟩ ⟨hD', fun t ht => (hv' t ht).2.2.1⟩ ?_ fun t ht => (hv' t ht).2.2.2
      rw [List.length_map] at hl
      rw [hl]
      simp
end
end Lk

set_option Elab.async false
set_option maxRecDepth 100000
set_option maxHeartbeats 1000000
namespace Lk
open PySem L2
abbrev s_law_column : Stmt := top 38
abbrev N_law_column : List Str := ["deal", "form", "many", "to", "state", "half"]
abbrev P_law_column : List Str := ["deal", "form", "many"]
theorem sc_law_column : FnScope N_law_column P_law_column (defScope s_law_column) := ⟨rfl, rfl, rfl, by decide +kernel, rfl, by decide +kernel, by decide +kernel⟩
/-- a column: as many ints as there are states, each a state -/
def spColumn : Sp := fun vs H Q _ => ∃ (d l : Addr) (form n : Int), vs = [.ref d, .int form, .int n] ∧ 0 < n ∧ n ≤ 1000 ∧ DealAt H d l ∧
  ∀ (H' : Hp) (p : Addr) (ns : List Int), DealAt H' d l → SB d l H H' → H p = none → H' p = some (.lst (ns.map V.int)) → (ns.length : Int) = n → (∀ z ∈ ns, 0 ≤ z ∧ z < n) → Q (.ref p) H'
section
variable {j : Nat} {te : TE} {σ : St} {H1 : Hp} {D : Addr} {Qd : Hp → Prop} {d l : Addr}
/-- a list of drawn ints over a range -/
theorem lcI {n : Nat} (φ : Nat → Int → Prop) (hD : H1 D = none) (hI : DealAt H1 d l) (hn : n ≤ 1000000)
    (hs : ∀ i H, i < n → DealAt H d l → SB d l H1 H → ∀ Q : VK, (∀ z H4, DealAt H4 d l → SB d l H H4 → φ i z → Q (.int z) H4) → te ((wipe σ [j]).set j (some (.int (0 + i)))) H Q)
    (hd : ∀ (ns : List Int) H', ns.length = n → (∀ (i : Nat) z, ns[i]? = some z → φ i z) → H' D = some (.lst (ns.map V.int)) → DealAt H' d l → SB d l H1 H' → Qd H') :
    ∃ W : Nat → Nat → Hp → Prop, (∃ m, W 0 m (upd H1 D (.lst []))) ∧ ∀ i m H, W i m H →
      ((Itr 0 n).stop i H ∧ Qd H) ∨ ((Itr 0 n).go i H ∧ ∃ Nx : Hp → Prop, (∀ H', Nx H' → ∃ m', m' < m ∧ W (i + 1) m' H') ∧ ∀ x H', (Itr 0 n).yld i H x H' → gName j x (wipe σ [j]) H' fun σ2 H2 => wipe σ2 [j] = wipe σ [j] ∧ tYes σ2 H2 fun b H3 =>
        if b = true then te σ2 H3 fun y H4 => ∃ acc, H4 D = some (.lst acc) ∧ acc.length < sizeLine ∧ Nx (upd H4 D (.lst (acc ++ [y]))) else Nx H3) := by
  have nD : ¬ dl d l D := hI.free hD
  refine lcR (dl d l) (fun H => DealAt H d l) (fun i y _ => ∃ z : Int, y = V.int z ∧ φ i z) hD nD hn hI (fun H o x => x.upd nD) (fun _ _ _ _ _ x => x) (fun i H acc hi x k1 _ Q kQ => ?_) (fun ys H' hl hf hD' x k1 => ?_)
  · exact hs i H hi x k1.sb Q fun z H4 x4 k4 hz => kQ _ _ x4 k4.kp ⟨z, rfl, hz⟩
  · obtain ⟨zs, rfl, hz⟩ := collect (g := V.int) hf
    exact hd zs H' (by rw [← hl, List.length_map]) hz hD' x k1.sb
end
theorem flat_rep {α : Type} (x : α) : ∀ k : Nat, (List.replicate k [x]).flatten = List.replicate k x
  | 0 => rfl
  | k + 1 => by
    show [x] ++ (List.replicate k [x]).flatten = _
    rw [flat_rep x k] <;> rfl
theorem all_of_get {ns : List Int} {φ : Int → Prop} (h : ∀ (i : Nat) z, ns[i]? = some z → φ z) : ∀ z ∈ ns, φ z := fun z hz => by
  obtain ⟨i, hi⟩ := List.getElem?_of_mem hz
  exact h i z hi
section
variable {P : Program} {w : World} {K : PySem.W.Frag} {mg : Str → Option Value} {base : Heap}
theorem ok_column {f fa fm : Addr} {fd fda fdm : FuncData} (A0 : Df K mg "_law_column" s_law_column f fd P_law_column) (d_law_any : Df K mg "_law_any" s_law_any fa fda P_law_any) (d_law_mixed : Df K mg "_law_mixed" s_law_mixed fm fdm P_law_mixed) (T : Txt mg) : FnOk P w K mg base CX0 3 f fd P_law_column spColumn := by
  have G_law_any : FnOk P w K mg base CX0 1 fa fda P_law_any spAny := ok_any d_law_any T
  have G_law_mixed : FnOk P w K mg base CX0 2 fm fdm P_law_mixed (spMixed K) := ok_mixed d_law_mixed d_law_any T
  refine A0.F.ok sc_law_column (fun vs H Q E h => ?_) (fun cdv A outer s H vs Q E hr h => ?_)
  · obtain ⟨d, l, form, n, rfl, _⟩ := h
    rfl
  · obtain ⟨d, l, form, n, rfl, n0, n1, D, k⟩ := h
    refine ⟨_, (pss_cons (ps_set (i := 3) sc_law_column.nd rfl (Or.inr rfl) (pe_call G_law_any (hr.mono (by decide)) rfl d_law_any.g d_law_any.F.kp d_law_any.b .nil pass0 (pa_cons (pv 0) (pa_cons (pv 2) pa_nil))))
    (pss_cons (ps_if (pt_cmpR op_eq (pv 1) pe_int (nomark _)) (pss_one (ps_ret (pe_lc (own := [("state", 4)]) (g := gName 4) (tt := tYes) rfl sc_law_column.nd (pi_range1 rfl T.range (pa_cons (pv 2) pa_nil)) (blkOk_by (N := N_law_column) (sc := defScope s_law_column) (by decide +kernel)) (fun _ _ _ _ _ => (pg_name (i := 4) sc_law_column.nd rfl (Or.inl rfl))) (fun _ _ _ _ _ => pts_nil) (fun _ _ _ _ _ => (pe_op op_mod (pe_callTy call_int1 (by rfl) T.int (by decide +kernel) (pa_cons (pe_op op_add (pv 4) (pv 3)) pa_nil)) (pv 2)))))) pss_nil)
    (pss_cons (ps_if (pt_cmpR op_eq (pv 1) pe_int (nomark _)) (pss_one (ps_ret (pe_op op_rep (pe_lst (pa_cons (pv 3) pa_nil)) (pv 2)))) pss_nil)
    (pss_cons (ps_if (pt_cmpR op_eq (pv 1) pe_int (nomark _)) (pss_one (ps_ret (pe_lc (own := [("state", 4)]) (g := gName 4) (tt := tYes) rfl sc_law_column.nd (pi_range1 rfl T.range (pa_cons (pv 2) pa_nil)) (blkOk_by (N := N_law_column) (sc := defScope s_law_column) (by decide +kernel)) (fun _ _ _ _ _ => (pg_name (i := 4) sc_law_column.nd rfl (Or.inl rfl))) (fun _ _ _ _ _ => pts_nil) (fun _ _ _ _ _ => (pe_ifExp (pt_cmpR op_eq (pv 4) pe_int (nomark _)) (pv 3) (pv 4)))))) pss_nil)
    (pss_cons (ps_if (pt_cmpR op_eq (pv 1) pe_int (nomark _)) (pss_one (ps_ret (pe_lc (own := [("state", 4)]) (g := gName 4) (tt := tYes) rfl sc_law_column.nd (pi_range1 rfl T.range (pa_cons (pv 2) pa_nil)) (blkOk_by (N := N_law_column) (sc := defScope s_law_column) (by decide +kernel)) (fun _ _ _ _ _ => (pg_name (i := 4) sc_law_column.nd rfl (Or.inl rfl))) (fun _ _ _ _ _ => pts_nil) (fun _ _ _ _ _ => (pe_callB (call_max2 rfl) (by rfl) T.max (by decide +kernel) (pa_cons pe_int (pa_cons (pe_callB (call_min2 rfl) (by rfl) T.min (by decide +kernel) (pa_cons (pe_op op_sub (pv 2) pe_int) (pa_cons (pe_op op_sub (pe_op op_add (pv 4) (pv 3)) pe_int) pa_nil))) pa_nil))))))) pss_nil)
    (pss_cons (ps_if (pt_cmpR op_eq (pv 1) pe_int (nomark _)) (pss_one (ps_ret (pe_call G_law_mixed (hr.mono (by decide)) rfl d_law_mixed.g d_law_mixed.F.kp d_law_mixed.b .nil pass0 (pa_cons (pv 0) (pa_cons (pe_listRg rfl (by rfl) T.list (prg_1 (by rfl) T.range (pv 2))) pa_nil))))) pss_nil)
    (pss_cons (ps_if (pt_cmpR op_eq (pv 1) pe_int (nomark _)) (pss_one (ps_ret (pe_lc (own := [("state", 4)]) (g := gName 4) (tt := tYes) rfl sc_law_column.nd (pi_range1 rfl T.range (pa_cons (pv 2) pa_nil)) (blkOk_by (N := N_law_column) (sc := defScope s_law_column) (by decide +kernel)) (fun _ _ _ _ _ => (pg_name (i := 4) sc_law_column.nd rfl (Or.inl rfl))) (fun _ _ _ _ _ => pts_nil) (fun _ _ _ _ _ => (pe_callB (call_max2 rfl) (by rfl) T.max (by decide +kernel) (pa_cons (pv 4) (pa_cons (pv 3) pa_nil))))))) pss_nil)
    (pss_cons (ps_if (pt_cmpR op_eq (pv 1) pe_int (nomark _)) (pss_cons (ps_set (i := 5) sc_law_column.nd rfl (Or.inr rfl) (pe_callB (call_max2 rfl) (by rfl) T.max (by decide +kernel) (pa_cons pe_int (pa_cons (pe_op op_fdiv (pv 2) pe_int) pa_nil))))
      (pss_one (ps_ret (pe_lc (own := [("state", 4)]) (g := gName 4) (tt := tYes) rfl sc_law_column.nd (pi_range1 rfl T.range (pa_cons (pv 2) pa_nil)) (blkOk_by (N := N_law_column) (sc := defScope s_law_column) (by decide +kernel)) (fun _ _ _ _ _ => (pg_name (i := 4) sc_law_column.nd rfl (Or.inl rfl))) (fun _ _ _ _ _ => pts_nil) (fun _ _ _ _ _ => (pe_op op_add (pe_op op_mod (pe_callTy call_int1 (by rfl) T.int (by decide +kernel) (pa_cons (pe_op op_add (pv 4) (pv 3)) pa_nil)) (pv 5)) (pe_ifExp (PW.pt (pw_and (pt_cmpR op_ge (pv 4) (pv 5) (nomark _)) (pw_and1 (pt_cmpR op_le (pe_op op_mul pe_int (pv 5)) (pv 2) (nomark _))))) (pv 5) pe_int))))))) pss_nil)
    (pss_one (ps_ret (pe_lc (own := [("state", 4)]) (g := gName 4) (tt := tYes) rfl sc_law_column.nd (pi_range1 rfl T.range (pa_cons (pv 2) pa_nil)) (blkOk_by (N := N_law_column) (sc := defScope s_law_column) (by decide +kernel)) (fun _ _ _ _ _ => (pg_name (i := 4) sc_law_column.nd rfl (Or.inl rfl))) (fun _ _ _ _ _ => pts_nil) (fun _ _ _ _ _ => (pe_call G_law_any (hr.mono (by decide)) rfl d_law_any.g d_law_any.F.kp d_law_any.b .nil pass0 (pa_cons (pv 0) (pa_cons (pv 2) pa_nil))))))))))))))), ?_⟩
    refine ⟨_, rfl, _, rfl, d, l, n, rfl, n0, by omega, D, fun H1 to D1 S1 to0 to1 => ?_⟩
    have back : ∀ (H' : Hp) (p : Addr) (ns : List Int), H1 p = none → DealAt H' d l → SB d l H1 H' → H' p = some (.lst (ns.map V.int)) → ns.length = n.toNat → (∀ z ∈ ns, 0 ≤ z ∧ z < n) → Q (.ref p) H' := fun H' p ns h1 h2 h3 h4 h5 h6 =>
      k H' p ns h2 (S1.trans h3) (S1.kp.free (D1.free h1) h1) h4 (by omega) h6
    refine ⟨_, rfl, rfl, _, rfl, ite2 (fun _ => ?_) (fun _ => ?_)⟩
    · refine ⟨_, rfl, n, rfl, by omega, by omega, fun p hp => lcI (fun _ z => 0 ≤ z ∧ z < n) hp D1 (by omega) (fun i H hi x _ Q kQ => ?_) (fun ns H' hl hz hD x k1 => back H' p ns hp x k1 hD hl (all_of_get hz))⟩
      exact ⟨_, rfl, _, rfl, _, _, rfl, rfl, .inl ⟨_, rfl, _, rfl, _, _, rfl, rfl, n0, kQ _ _ x (SB.refl _ _ _) ⟨Int.emod_nonneg _ (by omega), Int.emod_lt_of_pos _ n0⟩⟩⟩
    refine ⟨_, rfl, rfl, _, rfl, ite2 (fun _ => ?_) (fun _ => ?_)⟩
    · refine ⟨_, rfl, by show 1 ≤ sizeLine; decide, fun q hq => ⟨_, rfl, q, n, _, rfl, rfl, upd_same, by omega, by omega, Nat.le_trans (show 1 * n.toNat ≤ 1000 by omega) (by decide), fun p hp => ?_⟩⟩
      rw [flat_rep]
      have hp1 : H1 p = none := (KP.new (S := dl d l) hq).free ((D1.new hq).free hp) hp
      refine back _ p (List.replicate n.toNat to) hp1 ((D1.new hq).new hp) ((SB.new hq).trans (SB.new hp)) (by rw [upd_same, List.map_replicate]) (by simp) fun z hz => ?_
      rw [List.eq_of_mem_replicate hz]
      exact ⟨to0, to1⟩
    refine ⟨_, rfl, rfl, _, rfl, ite2 (fun _ => ?_) (fun _ => ?_)⟩
    · refine ⟨_, rfl, n, rfl, by omega, by omega, fun p hp => lcI (fun _ z => 0 ≤ z ∧ z < n) hp D1 (by omega) (fun i H hi x _ Q kQ => ?_) (fun ns H' hl hz hD x k1 => back H' p ns hp x k1 hD hl (all_of_get hz))⟩
      refine ⟨_, rfl, rfl, _, rfl, ite2 (fun _ => ?_) (fun _ => ?_)⟩
      · exact ⟨_, rfl, kQ _ _ x (SB.refl _ _ _) ⟨to0, to1⟩⟩
      · exact ⟨_, rfl, kQ _ _ x (SB.refl _ _ _) ⟨by omega, by omega⟩⟩
    refine ⟨_, rfl, rfl, _, rfl, ite2 (fun _ => ?_) (fun _ => ?_)⟩
    · refine ⟨_, rfl, n, rfl, by omega, by omega, fun p hp => lcI (fun _ z => 0 ≤ z ∧ z < n) hp D1 (by omega) (fun i H hi x _ Q kQ => ?_) (fun ns H' hl hz hD x k1 => back H' p ns hp x k1 hD hl (all_of_get hz))⟩
      refine ⟨_, rfl, _, _, rfl, rfl, _, rfl, _, rfl, _, _, rfl, rfl, _, _, rfl, rfl, _, _, rfl, _, _, rfl, ?_⟩
      refine kQ _ _ x (SB.refl _ _ _) ⟨?_, ?_⟩
      · split <;> omega
      · split
        · split <;> omega
        · omega
    refine ⟨_, rfl, rfl, _, rfl, ite2 (fun _ => ?_) (fun _ => ?_)⟩
    · refine ⟨_, rfl, _, rfl, n, rfl, RgOk.of_le (by decide) (by omega) (by decide) (by omega), fun q hq => ?_⟩
      refine ⟨d, l, q, (List.range n.toNat).map fun i => ((i : Nat) : Int), rfl, SqL.of ?_, by simp; omega, D1.new hq, fun H' p ms x k1 h1 h2 h3 => ?_⟩
      · rw [upd_same]
        unfold rgV
        rw [List.map_map]
        simp
      · refine back H' p ms (KP.free (S := dl d l) (KP.new hq) ((D1.new hq).free h1) h1) x ((SB.new hq).trans k1) h2 ?_ fun z hz => ?_
        · rw [h3.length_eq]
          simp
        · obtain ⟨i, hi, rfl⟩ := List.mem_map.mp (h3.mem_iff.mp hz)
          have := List.mem_range.mp hi
          omega
    refine ⟨_, rfl, rfl, _, rfl, ite2 (fun _ => ?_) (fun _ => ?_)⟩
    · refine ⟨_, rfl, n, rfl, by omega, by omega, fun p hp => lcI (fun _ z => 0 ≤ z ∧ z < n) hp D1 (by omega) (fun i H hi x _ Q kQ => ?_) (fun ns H' hl hz hD x k1 => back H' p ns hp x k1 hD hl (all_of_get hz))⟩
      refine ⟨_, rfl, _, rfl, _, _, rfl, kQ _ _ x (SB.refl _ _ _) ⟨?_, ?_⟩⟩
      · split <;> omega
      · split <;> omega
    refine ⟨_, rfl, rfl, _, rfl, ite2 (fun _ => ?_) (fun _ => ?_)⟩
    · refine ⟨_, rfl, _, _, rfl, rfl, ⟨by decide, by decide⟩, _, _, rfl, ?_⟩
      refine ⟨_, rfl, n, rfl, by omega, by omega, fun p hp => lcI (fun _ z => 0 ≤ z ∧ z < n) hp D1 (by omega) (fun i H hi x _ Q kQ => ?_) (fun ns H' hl hz hD x k1 => back H' p ns hp x k1 hD hl (all_of_get hz))⟩
      obtain ⟨half, eh, h0, h1, h2⟩ : ∃ half : Int, half = (if n / 2 > 1 then n / 2 else 1) ∧ 0 < half ∧ half ≤ n ∧ True := ⟨_, rfl, by split <;> omega, by split <;> omega, trivial⟩
      have r0 := Int.emod_nonneg (0 + (i : Int) + to) (show half ≠ 0 by omega)
      have r1 := Int.emod_lt_of_pos (0 + (i : Int) + to) h0
      have hb : ∀ y : Int, (y = half ∧ 2 * half ≤ n) ∨ y = 0 → 0 ≤ (0 + (i : Int) + to) % half + y ∧ (0 + (i : Int) + to) % half + y < n := fun y hy => by
        rcases hy with ⟨e, q⟩ | e <;> omega
      refine ⟨_, rfl, _, rfl, _, _, rfl, rfl, .inl ⟨_, rfl, _, rfl, _, _, rfl, rfl, ?_, ?_⟩⟩
      · rw [← eh]
        exact h0
      · refine ⟨_, rfl, _, rfl, _, _, rfl, rfl, _, rfl, ite2 (fun h3 => ?_) (fun _ => ?_)⟩
        · refine ⟨_, rfl, _, _, rfl, rfl, .inl ⟨by decide, by decide⟩, _, rfl, _, _, rfl, rfl, _, rfl, ite2 (fun h4 => ?_) (fun _ => ?_)⟩
          · have h4' := of_decide_eq_true h4
            rw [← eh] at h4'
            refine ⟨_, rfl, _, _, rfl, rfl, kQ _ _ x (SB.refl _ _ _) ?_⟩
            rw [← eh]
            exact hb half (.inl ⟨rfl, h4'⟩)
          · refine ⟨_, _, rfl, rfl, kQ _ _ x (SB.refl _ _ _) ?_⟩
            rw [← eh]
            exact hb 0 (.inr rfl)
        · refine iteF ⟨_, _, rfl, rfl, kQ _ _ x (SB.refl _ _ _) ?_⟩
          rw [← eh]
          exact hb 0 (.inr rfl)
    · refine ⟨_, rfl, n, rfl, by omega, by omega, fun p hp => lcI (fun _ z => 0 ≤ z ∧ z < n) hp D1 (by omega) (fun i H hi x _ Q kQ => ?_) (fun ns H' hl hz hD x k1 => back H' p ns hp x k1 hD hl (all_of_get hz))⟩
      exact ⟨_, rfl, _, rfl, d, l, n, rfl, n0, by omega, x, fun H4 r x4 k4 r0 r1 => kQ _ _ x4 k4 ⟨r0, r1⟩⟩
end
end Lk

set_option Elab.async false
set_option maxRecDepth 100000
set_option maxHeartbeats 1000000
namespace Lk
open PySem L2
abbrev s_law_machine : Stmt := top 39
abbrev N_law_machine : List Str := ["deal", "most", "form", "commands", "one", "other", "s", "many", "columns", "command", "kind"]
abbrev P_law_machine : List Str := ["deal", "most"]
theorem sc_law_machine : FnScope N_law_machine P_law_machine (defScope s_law_machine) := ⟨rfl, rfl, rfl, by decide +kernel, rfl, by decide +kernel, by decide +kernel⟩
/-- as a machine's steps: rows of A states each -/
structure RowsOk (A : Nat) (ts : List (Addr × List Int)) : Prop where
  pos : 0 < ts.length
  row : ∀ t ∈ ts, t.2.length = A ∧ ∀ z ∈ t.2, 0 ≤ z ∧ z < (ts.length : Int)
/-- a drawn machine: (commands, steps) -/
def spMachine : Sp := fun vs H Q _ => ∃ (d l : Addr) (most : Int), vs = [.ref d, .int most] ∧ 0 < most ∧ most ≤ 100 ∧ DealAt H d l ∧
  ∀ (H' : Hp) (t p : Addr) (A : Nat) (ts : List (Addr × List Int)), DealAt H' d l → SB d l H H' → H t = none → H' t = some (.tup [.int A, .ref p]) → NewG H p ts → GridAt H' p ts → 0 < A → A ≤ 3 → (ts.length : Int) ≤ most → RowsOk A ts → Q (.ref t) H'
theorem GridAt.snoc {H : Hp} {c p : Addr} {ts : List (Addr × List Int)} {ns : List Int} (x : GridAt H c ts) (hp : H p = some (.lst (ns.map V.int))) (n : p ≠ c) (hr : ∀ t ∈ ts, t.1 ≠ c) :
    GridAt (upd H c (.lst ((ts.map fun t => V.ref t.1) ++ [.ref p]))) c (ts ++ [(p, ns)]) := by
  refine ⟨by rw [upd_same, List.map_append] <;> rfl, fun t ht => ?_⟩
  rcases List.mem_append.mp ht with h | h
  · rw [upd_ne (hr t h)]
    exact x.row t h
  · rw [List.mem_singleton.mp h, upd_ne n]
    exact hp
theorem GridAt.new {H : Hp} {p q : Addr} {o : HO} {ts : List (Addr × List Int)} (x : GridAt H p ts) (h : H q = none) : GridAt (upd H q o) p ts :=
  ⟨by rw [upd_ne (ne_of_none x.top h)]; exact x.top, fun t ht => by rw [upd_ne (ne_of_none (x.row t ht) h)]; exact x.row t ht⟩
theorem NewG.back {S : Addr → Prop} {H H1 : Hp} {p : Addr} {ts : List (Addr × List Int)} (x : NewG H1 p ts) (k : KP S H H1) (n : ¬ S p) (hn : ∀ t ∈ ts, ¬ S t.1) : NewG H p ts :=
  ⟨k.free n x.top, fun t ht => k.free (hn t ht) (x.row t ht)⟩
/-- new behind what has a deal: new ahead of it -/
theorem NewG.deal {H H1 : Hp} {d l p : Addr} {ts : List (Addr × List Int)} (x : NewG H1 p ts) (k : SB d l H H1) (D : DealAt H1 d l) : NewG H p ts :=
  x.back k.kp (D.free x.top) fun t ht => D.free (x.row t ht)
theorem nk {H : Hp} {a p : Addr} {o u : HO} (h : H a = some o) (hp : H p = none) : upd H p u a = some o := (upd_ne (ne_of_none h hp)).trans h
theorem ff {H : Hp} {p q : Addr} {u : HO} (hp : H p = none) (hq : upd H p u q = none) : H q = none := (KP.new (S := fun _ => False) hp).free id hq
theorem two_ways {c : Prop} [Decidable c] {A X B : Prop} (hB : B) (h : c → B → X) : if c then X else (if false = true then A else B) := by
  by_cases hc : c
  · rw [if_pos hc]
    exact h hc hB
  · rw [if_neg hc]
    exact iteF hB
section
variable {K : PySem.W.Frag} {j : Nat} {te : TE} {σ : St} {H1 : Hp} {D : Addr} {Qd : Hp → Prop} {d l : Addr}
def fG (φ : Nat → List Int → Prop) (H1 : Hp) (D : Addr) (i : Nat) (y : V) (H : Hp) : Prop := ∃ t : Addr × List Int, y = V.ref t.1 ∧ H1 t.1 = none ∧ t.1 ≠ D ∧ H t.1 = some (.lst (t.2.map V.int)) ∧ φ i t.2
theorem fG_end {φ : Nat → List Int → Prop} {ys : List V} {H' : Hp} (hD : H1 D = none) (hf : ∀ i y, ys[i]? = some y → fG φ H1 D i y H') (hD' : H' D = some (.lst ys)) :
    ∃ ts : List (Addr × List Int), ts.length = ys.length ∧ NewG H1 D ts ∧ GridAt H' D ts ∧ ∀ i t, ts[i]? = some t → φ i t.2 := by
  obtain ⟨ts, rfl, ht⟩ := collect (g := fun t : Addr × List Int => V.ref t.1) hf
  have hm : ∀ t ∈ ts, H1 t.1 = none ∧ H' t.1 = some (.lst (t.2.map V.int)) := fun t h => by
    obtain ⟨i, hi⟩ := List.getElem?_of_mem h
    exact ⟨(ht i t hi).1, (ht i t hi).2.2.1⟩
  exact ⟨ts, by rw [List.length_map], ⟨hD, fun t h => (hm t h).1⟩, ⟨hD', fun t h => (hm t h).2⟩, fun i t h => (ht i t h).2.2.2⟩
/-- rows made over a range -/
theorem lcGR {n : Nat} (φ : Nat → List Int → Prop) (hD : H1 D = none) (hI : DealAt H1 d l) (hn : n ≤ 1000000)
    (hs : ∀ i H, i < n → DealAt H d l → SB d l H1 H → ∀ Q : VK, (∀ a r H4, DealAt H4 d l → SB d l H H4 → H a = none → H4 a = some (.lst (r.map V.int)) → φ i r → Q (.ref a) H4) → te ((wipe σ [j]).set j (some (.int (0 + i)))) H Q)
    (hd : ∀ ts H', ts.length = n → (∀ (i : Nat) t, ts[i]? = some t → φ i t.2) → NewG H1 D ts → GridAt H' D ts → DealAt H' d l → SB d l H1 H' → Qd H') :
    ∃ W : Nat → Nat → Hp → Prop, (∃ m, W 0 m (upd H1 D (.lst []))) ∧ ∀ i m H, W i m H →
      ((Itr 0 n).stop i H ∧ Qd H) ∨ ((Itr 0 n).go i H ∧ ∃ Nx : Hp → Prop, (∀ H', Nx H' → ∃ m', m' < m ∧ W (i + 1) m' H') ∧ ∀ x H', (Itr 0 n).yld i H x H' → gName j x (wipe σ [j]) H' fun σ2 H2 => wipe σ2 [j] = wipe σ [j] ∧ tYes σ2 H2 fun b H3 =>
        if b = true then te σ2 H3 fun y H4 => ∃ acc, H4 D = some (.lst acc) ∧ acc.length < sizeLine ∧ Nx (upd H4 D (.lst (acc ++ [y]))) else Nx H3) := by
  have nD : ¬ dl d l D := hI.free hD
  refine lcR (dl d l) (fun H => DealAt H d l) (fG φ H1 D) hD nD hn hI (fun H o x => x.upd nD) (fun i y H H' k ⟨t, e, h1, h2, h3, h4⟩ => ⟨t, e, h1, h2, k.get (fun q => q.elim (hI.free h1) h2) h3, h4⟩) (fun i H acc hi x k1 hDa Q kQ => ?_) (fun ys H' hl hf hD' x k1 => ?_)
  · refine hs i H hi x k1.sb Q fun a r H4 x4 k4 ha ha4 hr => kQ _ _ x4 k4.kp ⟨(a, r), rfl, k1.free (x.free ha) ha, fun e => ?_, ha4, hr⟩
    have e' : a = D := e
    rw [e', hDa] at ha
    cases ha
  · obtain ⟨ts, h1, h2, h3, h4⟩ := fG_end hD hf hD'
    exact hd ts H' (h1.trans hl) h4 h2 h3 x k1.sb
/-- rows made over a list -/
theorem lcGL {a : Addr} {xs : List V} (φ : Nat → List Int → Prop) (hD : H1 D = none) (hI : DealAt H1 d l) (hn : xs.length ≤ 1000000) (ha : ∀ H, SB d l H1 H → SqL K H a xs)
    (hs : ∀ i x H, xs[i]? = some x → DealAt H d l → SB d l H1 H → ∀ Q : VK, (∀ a r H4, DealAt H4 d l → SB d l H H4 → H a = none → H4 a = some (.lst (r.map V.int)) → φ i r → Q (.ref a) H4) → te ((wipe σ [j]).set j (some x)) H Q)
    (hd : ∀ ts H', ts.length = xs.length → (∀ (i : Nat) t, ts[i]? = some t → φ i t.2) → NewG H1 D ts → GridAt H' D ts → DealAt H' d l → SB d l H1 H' → Qd H') :
    ∃ W : Nat → Nat → Hp → Prop, (∃ m, W 0 m (upd H1 D (.lst []))) ∧ ∀ i m H, W i m H →
      ((Itl K a).stop i H ∧ Qd H) ∨ ((Itl K a).go i H ∧ ∃ Nx : Hp → Prop, (∀ H', Nx H' → ∃ m', m' < m ∧ W (i + 1) m' H') ∧ ∀ x H', (Itl K a).yld i H x H' → gName j x (wipe σ [j]) H' fun σ2 H2 => wipe σ2 [j] = wipe σ [j] ∧ tYes σ2 H2 fun b H3 =>
        if b = true then te σ2 H3 fun y H4 => ∃ acc, H4 D = some (.lst acc) ∧ acc.length < sizeLine ∧ Nx (upd H4 D (.lst (acc ++ [y]))) else Nx H3) := by
  have nD : ¬ dl d l D := hI.free hD
  refine lcL (xs := xs) (dl d l) (fun H => DealAt H d l) (fG φ H1 D) hD nD hn hI (fun H o x => x.upd nD) (fun i y H H' k ⟨t, e, h1, h2, h3, h4⟩ => ⟨t, e, h1, h2, k.get (fun q => q.elim (hI.free h1) h2) h3, h4⟩) (fun H k => ha H k.sb) (fun i x0 H acc hi x k1 hDa Q kQ => ?_) (fun ys H' hl hf hD' x k1 => ?_)
  · refine hs i x0 H hi x k1.sb Q fun b r H4 x4 k4 hb hb4 hr => kQ _ _ x4 k4.kp ⟨(b, r), rfl, k1.free (x.free hb) hb, fun e => ?_, hb4, hr⟩
    have e' : b = D := e
    rw [e', hDa] at hb
    cases hb
  · obtain ⟨ts, h1, h2, h3, h4⟩ := fG_end hD hf hD'
    exact hd ts H' (h1.trans hl) h4 h2 h3 x k1.sb
end
section
variable {P : Program} {w : World} {K : PySem.W.Frag} {mg : Str → Option Value} {base : Heap}
theorem ok_machine {f fa fo fc fm fk : Addr} {fd fda fdo fdc fdm fdk : FuncData} (A0 : Df K mg "_law_machine" s_law_machine f fd P_law_machine) (d_law_any : Df K mg "_law_any" s_law_any fa fda P_law_any) (d_law_of : Df K mg "_law_of" s_law_of fo fdo P_law_of) (d_law_mixed : Df K mg "_law_mixed" s_law_mixed fm fdm P_law_mixed)
    (d_law_columns : Df K mg "_law_columns" s_law_columns fc fdc P_law_columns) (d_law_column : Df K mg "_law_column" s_law_column fk fdk P_law_column) (T : Txt mg) : FnOk P w K mg base CX0 4 f fd P_law_machine spMachine := by
  have G_law_any : FnOk P w K mg base CX0 1 fa fda P_law_any spAny := ok_any d_law_any T
  have G_law_of : FnOk P w K mg base CX0 2 fo fdo P_law_of spOf := ok_of d_law_of d_law_any T
  have G_law_columns : FnOk P w K mg base CX0 1 fc fdc P_law_columns spColumns := ok_columns d_law_columns T
  have G_law_column : FnOk P w K mg base CX0 3 fk fdk P_law_column spColumn := ok_column d_law_column d_law_any d_law_mixed T
  refine A0.F.ok sc_law_machine (fun vs H Q E h => ?_) (fun cdv A outer s H vs Q E hr h => ?_)
  · obtain ⟨d, l, most, rfl, _⟩ := h
    rfl
  · obtain ⟨d, l, most, rfl, m0, m1, D, k⟩ := h
    refine ⟨_, (pss_cons (ps_par (i := 2) (j := 3) rfl sc_law_machine.nd rfl rfl (by decide) rfl rfl (pa_cons (pe_call G_law_any (hr.mono (by decide)) rfl d_law_any.g d_law_any.F.kp d_law_any.b .nil pass0 (pa_cons (pv 0) (pa_cons pe_int pa_nil))) (pa_cons (pe_call G_law_of (hr.mono (by decide)) rfl d_law_of.g d_law_of.F.kp d_law_of.b .nil pass0 (pa_cons (pv 0) (pa_cons (pe_lst (pa_cons pe_int (pa_cons pe_int (pa_cons pe_int (pa_cons pe_int (pa_cons pe_int pa_nil)))))) pa_nil))) pa_nil)) rfl)
    (pss_cons (ps_if (PW.pt (pw_and (pt_cmpR op_eq (pv 2) pe_int (nomark _)) (pw_and1 (pt_cmpR op_gt (pv 1) pe_int (nomark _))))) (pss_one (ps_ret (pe_tup (pa_cons pe_int (pa_cons (pe_lst (pa_cons (pe_lst (pa_cons pe_int (pa_cons pe_int pa_nil))) (pa_cons (pe_lst (pa_cons pe_int (pa_cons pe_int pa_nil))) (pa_cons (pe_lst (pa_cons pe_int (pa_cons pe_int pa_nil))) (pa_cons (pe_lst (pa_cons pe_int (pa_cons pe_int pa_nil))) pa_nil))))) pa_nil))))) pss_nil)
    (pss_cons (ps_if (PW.pt (pw_and (pt_cmpR op_eq (pv 2) pe_int (nomark _)) (pw_and1 (pt_cmpR op_gt (pv 1) pe_int (nomark _))))) (pss_cons (ps_asg (pe_tup (pa_cons (pe_call G_law_any (hr.mono (by decide)) rfl d_law_any.g d_law_any.F.kp d_law_any.b .nil pass0 (pa_cons (pv 0) (pa_cons pe_int pa_nil))) (pa_cons (pe_call G_law_of (hr.mono (by decide)) rfl d_law_of.g d_law_of.F.kp d_law_of.b .nil pass0 (pa_cons (pv 0) (pa_cons (pe_lst (pa_cons pe_int (pa_cons pe_int pa_nil))) pa_nil))) pa_nil))) (pg_tup rfl (pgs_cons (pg_name (i := 4) sc_law_machine.nd rfl (Or.inr rfl)) (pgs_cons (pg_name (i := 5) sc_law_machine.nd rfl (Or.inr rfl)) pgs_nil))))
      (pss_one (ps_ret (pe_tup (pa_cons pe_int (pa_cons (pe_lc (own := [("s", 6)]) (g := gName 6) (tt := tYes) rfl sc_law_machine.nd (pi_range1 rfl T.range (pa_cons pe_int pa_nil)) (blkOk_by (N := N_law_machine) (sc := defScope s_law_machine) (by decide +kernel)) (fun _ _ _ _ _ => (pg_name (i := 6) sc_law_machine.nd rfl (Or.inl rfl))) (fun _ _ _ _ _ => pts_nil) (fun _ _ _ _ _ => (pe_lst (pa_cons (pe_op op_add (pe_op op_mul pe_int (pe_op op_fdiv (pv 6) pe_int)) (pv 4)) (pa_cons (pe_ifExp (pt_cmpR op_eq (pe_op op_mod (pv 6) pe_int) pe_int (nomark _)) (pe_op op_mod (pe_callTy call_int1 (by rfl) T.int (by decide +kernel) (pa_cons (pe_op op_add (pv 6) (pv 5)) pa_nil)) pe_int) (pe_op op_mod (pe_callTy call_int1 (by rfl) T.int (by decide +kernel) (pa_cons (pe_op op_add (pv 6) pe_int) pa_nil)) pe_int)) pa_nil))))) pa_nil)))))) pss_nil)
    (pss_cons (ps_par (i := 7) (j := 8) rfl sc_law_machine.nd rfl rfl (by decide) rfl rfl (pa_cons (pe_op op_add pe_int (pe_call G_law_any (hr.mono (by decide)) rfl d_law_any.g d_law_any.F.kp d_law_any.b .nil pass0 (pa_cons (pv 0) (pa_cons (pv 1) pa_nil)))) (pa_cons (pe_lst pa_nil) pa_nil)) rfl)
    (pss_cons (ps_for PassesOwn.never rfl (pi_range1 rfl T.range (pa_cons (pv 3) pa_nil)) (pg_name (i := 9) sc_law_machine.nd rfl (Or.inl rfl))
      (pss_cons (ps_set (i := 10) sc_law_machine.nd rfl (Or.inl rfl) (pe_ifExp (pt_cmpR op_gt (pv 2) pe_int (nomark _)) (pe_call G_law_any (hr.mono (by decide)) rfl d_law_any.g d_law_any.F.kp d_law_any.b .nil pass0 (pa_cons (pv 0) (pa_cons pe_int pa_nil))) (pv 2)))
      (pss_one (ps_expr (pe_bm PySem.F.plainAttrs_list PySem.F.slot_list_append PySem.F.type_list_append mt_append (pv 8) (pa_cons (pe_call G_law_column (hr.mono (by decide)) rfl d_law_column.g d_law_column.F.kp d_law_column.b .nil pass0 (pa_cons (pv 0) (pa_cons (pv 10) (pa_cons (pv 7) pa_nil)))) pa_nil))))))
    (pss_one (ps_ret (pe_tup (pa_cons (pv 3) (pa_cons (pe_call G_law_columns (hr.mono (by decide)) rfl d_law_columns.g d_law_columns.F.kp d_law_columns.b .nil pass0 (pa_cons (pv 8) pa_nil)) pa_nil)))))))))), ?_⟩
    refine ⟨_, rfl, d, l, _, rfl, by decide, by decide, D, fun H1 form D1 S1 f0 f1 => ?_⟩
    refine ⟨_, rfl, by show 5 ≤ sizeLine; decide, fun q hq => ⟨d, l, q, _, rfl, upd_same, D1.free hq, by show 0 < 5; decide, by show 5 ≤ 1000; decide, D1.new hq, fun H2 i cm D2 S2 hi => ?_⟩⟩
    obtain ⟨A, rfl, A0, A3⟩ : ∃ A : Nat, cm = V.int A ∧ 0 < A ∧ A ≤ 3 := by
      match i, hi with
      | 0, hi => exact ⟨1, (Option.some.inj hi).symm, by decide, by decide⟩
      | 1, hi => exact ⟨2, (Option.some.inj hi).symm, by decide, by decide⟩
      | 2, hi => exact ⟨2, (Option.some.inj hi).symm, by decide, by decide⟩
      | 3, hi => exact ⟨2, (Option.some.inj hi).symm, by decide, by decide⟩
      | 4, hi => exact ⟨3, (Option.some.inj hi).symm, by decide, by decide⟩
      | n + 5, hi => cases hi
    have S02 : SB d l H H2 := (S1.trans (SB.new hq)).trans S2
    have fin : ∀ (H' : Hp) (t p : Addr) (A : Nat) (ts : List (Addr × List Int)), DealAt H' d l → SB d l H2 H' → H2 t = none → H' t = some (.tup [.int A, .ref p]) → NewG H2 p ts → GridAt H' p ts → 0 < A → A ≤ 3 → (ts.length : Int) ≤ most → RowsOk A ts → Q (.ref t) H' :=
      fun H' t p A ts x1 x2 x3 x4 x5 x6 x7 x8 x9 x10 => k H' t p A ts x1 (S02.trans x2) (S02.kp.free (D2.free x3) x3) x4 (x5.deal S02 D2) x6 x7 x8 x9 x10
    refine ⟨_, _, rfl, ?_⟩
    refine ⟨_, rfl, rfl, _, rfl, two_ways ?_ fun _ rest => ⟨_, rfl, _, _, rfl, rfl, _, rfl, ite2 (fun h3 => ?_) fun _ => rest⟩⟩
    rotate_left
    · -- (2, [[0, 1], [2, 3], [0, 1], [2, 3]])
      have h3' : (3 : Int) < most := of_decide_eq_true h3
      refine ⟨by show 2 ≤ sizeLine; decide, fun a1 e1 => ⟨by show 2 ≤ sizeLine; decide, fun a2 e2 => ⟨by show 2 ≤ sizeLine; decide, fun a3 e3 => ⟨by show 2 ≤ sizeLine; decide, fun a4 e4 => ⟨by show 4 ≤ sizeLine; decide, fun p ep => ⟨by show 2 ≤ sizeLine; decide, fun t et => ?_⟩⟩⟩⟩⟩⟩
      have n2 := ff e1 e2
      have n3 := ff e1 (ff e2 e3)
      have n4 := ff e1 (ff e2 (ff e3 e4))
      have np := ff e1 (ff e2 (ff e3 (ff e4 ep)))
      have nt := ff e1 (ff e2 (ff e3 (ff e4 (ff ep et))))
      refine fin _ t p 2 [(a1, [0, 1]), (a2, [2, 3]), (a3, [0, 1]), (a4, [2, 3])] ((((((D2.new e1).new e2).new e3).new e4).new ep).new et) ((((((SB.new e1).trans (SB.new e2)).trans (SB.new e3)).trans (SB.new e4)).trans (SB.new ep)).trans (SB.new et)) nt upd_same ⟨np, fun u hu => ?_⟩ ⟨nk upd_same et, fun u hu => ?_⟩ (by decide) (by decide) (by show (4 : Int) ≤ most; omega) ⟨by show 0 < 4; decide, fun u hu => ?_⟩
      · simp only [List.mem_cons, List.not_mem_nil, or_false] at hu
        rcases hu with rfl | rfl | rfl | rfl
        · exact e1
        · exact n2
        · exact n3
        · exact n4
      · simp only [List.mem_cons, List.not_mem_nil, or_false] at hu
        rcases hu with rfl | rfl | rfl | rfl
        · exact nk (nk (nk (nk (nk upd_same e2) e3) e4) ep) et
        · exact nk (nk (nk (nk upd_same e3) e4) ep) et
        · exact nk (nk (nk upd_same e4) ep) et
        · exact nk (nk upd_same ep) et
      · simp only [List.mem_cons, List.not_mem_nil, or_false] at hu
        rcases hu with rfl | rfl | rfl | rfl <;> exact ⟨rfl, fun z hz => by simp only [List.mem_cons, List.not_mem_nil, or_false] at hz; rcases hz with rfl | rfl <;> exact ⟨by decide, by show _ < ((4 : Nat) : Int); decide⟩⟩
    refine ⟨_, rfl, rfl, _, rfl, two_ways ?_ fun _ rest => ⟨_, rfl, _, _, rfl, rfl, _, rfl, ite2 (fun h3 => ?_) fun _ => rest⟩⟩
    rotate_left
    · have h3' : (3 : Int) < most := of_decide_eq_true h3
      refine ⟨_, rfl, d, l, _, rfl, by decide, by decide, D2, fun H3 one D3 S3 o0 o1 => ?_⟩
      refine ⟨_, rfl, by show 2 ≤ sizeLine; decide, fun q2 hq2 => ⟨d, l, q2, _, rfl, upd_same, D3.free hq2, by show 0 < 2; decide, by show 2 ≤ 1000; decide, D3.new hq2, fun H4 i2 ov D4 S4 hi2 => ?_⟩⟩
      obtain ⟨other, rfl⟩ : ∃ other : Int, ov = V.int other := by
        match i2, hi2 with
        | 0, hi => exact ⟨1, (Option.some.inj hi).symm⟩
        | 1, hi => exact ⟨3, (Option.some.inj hi).symm⟩
        | n + 2, hi => cases hi
      refine ⟨by show 2 ≤ sizeLine; decide, fun t0 ht0 => ⟨t0, _, rfl, SqT.of upd_same, rfl, _, _, rfl, _, _, rfl, rfl, ?_⟩⟩
      have D5 := D4.new (o := HO.tup [V.int one, V.int other]) ht0
      have S25 : SB d l H2 _ := ((S3.trans (SB.new hq2)).trans S4).trans (SB.new (o := HO.tup [V.int one, V.int other]) ht0)
      refine ⟨_, rfl, by decide, by decide, fun p ep => lcGR (n := 4) (fun _ r => r.length = 2 ∧ ∀ z ∈ r, 0 ≤ z ∧ z < (4 : Int)) ep D5 (by decide) (fun i H6 hi x6 _ Q6 kQ => ?_) (fun ts H' hl hz hN hG x k1 => ?_)⟩
      · have i4 : (0 : Int) + (i : Int) < 4 := by omega
        have fin6 : ∀ z1 z2 : Int, (0 ≤ z1 ∧ z1 < 4) → (0 ≤ z2 ∧ z2 < 4) → ∀ a, H6 a = none → Q6 (.ref a) (upd H6 a (.lst [.int z1, .int z2])) := fun z1 z2 b1 b2 a ha => by
          refine kQ a [z1, z2] _ (x6.new ha) (SB.new ha) ha upd_same ⟨rfl, fun z hz => ?_⟩
          simp only [List.mem_cons, List.not_mem_nil, or_false] at hz
          rcases hz with rfl | rfl
          · exact b1
          · exact b2
        refine ⟨_, rfl, _, _, rfl, rfl, ⟨by decide, by decide⟩, _, _, rfl, rfl, .inl ⟨by decide, by decide⟩, _, rfl, _, _, rfl, rfl, ?_⟩
        refine ⟨_, rfl, _, _, rfl, rfl, (by show (0 : Int) < 2; decide), rfl, _, rfl, ite2 (fun _ => ?_) (fun _ => ?_)⟩
        · exact ⟨_, rfl, _, rfl, _, _, rfl, rfl, .inl ⟨_, rfl, _, _, rfl, rfl, (by show (0 : Int) < 4; decide), by show 2 ≤ sizeLine; decide, fin6 _ _ ⟨by omega, by omega⟩ ⟨Int.emod_nonneg _ (by decide), Int.emod_lt_of_pos _ (by decide)⟩⟩⟩
        · exact ⟨_, rfl, _, _, rfl, rfl, .inl ⟨_, rfl, _, _, rfl, rfl, (by show (0 : Int) < 4; decide), by show 2 ≤ sizeLine; decide, fin6 _ _ ⟨by omega, by omega⟩ ⟨Int.emod_nonneg _ (by decide), Int.emod_lt_of_pos _ (by decide)⟩⟩⟩
      · refine ⟨by show 2 ≤ sizeLine; decide, fun t et => ?_⟩
        have nt : ¬ dl d l t := x.free et
        have D4f := D4
        refine fin _ t p 2 ts (x.new et) ((S25.trans k1).trans (SB.new et)) ?_ upd_same ?_ (hG.new et) (by decide) (by decide) (by omega) ⟨by omega, fun u hu => ?_⟩
        · exact (S25.trans k1).kp.free nt et
        · exact hN.deal S25 D5
        · obtain ⟨i, hi⟩ := List.getElem?_of_mem hu
          have := hz i u hi
          rw [hl]
          exact this
    · -- many columns
      refine ⟨_, rfl, _, rfl, d, l, _, rfl, m0, by omega, D2, fun H3 ma D3 S3 ma0 ma1 => ?_⟩
      have S23 : SB d l H2 H3 := S3
      refine ⟨_, _, rfl, rfl, ?_⟩
      refine ⟨Nat.zero_le _, fun c hc => ⟨_, _, rfl, ?_⟩⟩
      obtain ⟨many, em, q0, q1⟩ : ∃ many : Nat, (1 + ma : Int) = (many : Int) ∧ 0 < many ∧ (many : Int) ≤ most := ⟨(1 + ma).toNat, by omega, by omega, by omega⟩
      have c0 : H2 c = none := S3.kp.free (D3.free hc) hc
      refine ⟨_, rfl, (A : Int), rfl, by omega, by omega, ?_⟩
      rw [show ((A : Int)).toNat = A by omega]
      refine for_range (fun i σ H4 => ∃ (v9 v10 : Option V) (ts : List (Addr × List Int)), σ = [some (.ref d), some (.int most), some (.int form), some (.int (A : Int)), none, none, none, some (.int (1 + ma)), some (.ref c), v9, v10] ∧ DealAt H4 d l ∧ SB d l H2 H4 ∧ GridAt H4 c ts ∧ (∀ t ∈ ts, H2 t.1 = none ∧ t.1 ≠ c) ∧ ts.length = i ∧ ∀ t ∈ ts, t.2.length = many ∧ ∀ z ∈ t.2, 0 ≤ z ∧ z < (many : Int))
        ⟨none, none, [], rfl, D3.new hc, S3.trans (SB.new hc), ⟨upd_same, fun t ht => nomatch ht⟩, (fun t ht => nomatch ht), rfl, (fun t ht => nomatch ht)⟩ ?_ ?_
      · rintro i σ H4 hi ⟨v9, v10, ts, rfl, D4, S4, G4, N4, hl4, R4⟩
        have nc : ¬ dl d l c := D2.free c0
        have nts : ∀ t ∈ ts, ¬ dl d l t.1 := fun t ht => D2.free (N4 t ht).1
        have body : ∀ (H5 : Hp) (kind : Int), DealAt H5 d l → SB d l H4 H5 → (tDrop (tBM K "list" rAppend (tVar 8) (tCons (tCall spColumn [] E0 (tCons (tVar 0) (tCons (tVar 10) (tCons (tVar 7) tNil)))) tNil)))
            { nx := fun σ H4 => ∃ (v9 v10 : Option V) (ts : List (Addr × List Int)), σ = [some (.ref d), some (.int most), some (.int form), some (.int (A : Int)), none, none, none, some (.int (1 + ma)), some (.ref c), v9, v10] ∧ DealAt H4 d l ∧ SB d l H2 H4 ∧ GridAt H4 c ts ∧ (∀ t ∈ ts, H2 t.1 = none ∧ t.1 ≠ c) ∧ ts.length = i + 1 ∧ ∀ t ∈ ts, t.2.length = many ∧ ∀ z ∈ t.2, 0 ≤ z ∧ z < (many : Int),
              rt := Q } [some (.ref d), some (.int most), some (.int form), some (.int (A : Int)), none, none, none, some (.int (1 + ma)), some (.ref c), some (.int (0 + (i : Int))), some (.int kind)] H5 := by
          intro H5 kind D5 S5
          have G5 : GridAt H5 c ts := G4.kp S5.kp nc nts
          refine ⟨_, rfl, .inl ⟨rfl, _, SqL.of G5.top⟩, _, rfl, _, rfl, _, rfl, d, l, kind, 1 + ma, rfl, by omega, by omega, D5, fun H6 p ns D6 S6 hp6 hp6' hn6 hr6 => ?_⟩
          have G6 : GridAt H6 c ts := G5.kp S6.kp nc nts
          have S26 := (S4.trans S5).trans S6
          have np : H2 p = none := (S4.trans S5).kp.free (D5.free hp6) hp6
          have npc : p ≠ c := fun e => by
            rw [e, G5.top] at hp6
            cases hp6
          refine ⟨c, _, _, rfl, rfl, G6.top, ?_, _, _, ts ++ [(p, ns)], rfl, D6.upd nc, (S26.kp.mut c0).sb, G6.snoc hp6' npc fun t ht => (N4 t ht).2, fun t ht => ?_, by rw [List.length_append, hl4]; rfl, fun t ht => ?_⟩
          · rw [List.length_map]
            exact Nat.lt_of_le_of_lt (by omega : _ ≤ 1000) (by decide)
          · rcases List.mem_append.mp ht with h | h
            · exact N4 t h
            · rw [List.mem_singleton.mp h]
              exact ⟨np, npc⟩
          · rcases List.mem_append.mp ht with h | h
            · exact R4 t h
            · rw [List.mem_singleton.mp h]
              refine ⟨by show ns.length = many; omega, fun z hz => ?_⟩
              have := hr6 z hz
              omega
        refine ⟨_, rfl, _, _, rfl, rfl, _, rfl, ite2 (fun _ => ?_) (fun _ => ?_)⟩
        · exact ⟨_, rfl, d, l, _, rfl, by decide, by decide, D4, fun H5 kind D5 S5 _ _ => body H5 kind D5 S5⟩
        · exact ⟨_, rfl, body H4 form D4 (SB.refl _ _ _)⟩
      · rintro σ H4 ⟨v9, v10, ts, rfl, D4, S4, G4, N4, hl4, R4⟩
        refine ⟨_, rfl, _, rfl, c, ts, many, rfl, G4, by omega, by omega, by omega, fun t ht => (R4 t ht).1, fun H5 p us S5 N5 G5 hl5 R5 => ⟨by show 2 ≤ sizeLine; decide, fun t ht => ?_⟩⟩
        have S45 : SB d l H4 H5 := (KP.same (S := dl d l) S5).sb
        have D5 : DealAt H5 d l := by
          obtain ⟨bs, b, y⟩ := D4
          exact ⟨bs, b, S5 _ _ y.hd, S5 _ _ y.hl, y.pos, y.len, y.b0, y.b1⟩
        refine fin _ t p A us (D5.new ht) ((S4.trans S45).trans (SB.new ht)) ((S4.trans S45).kp.free (D5.free ht) ht) upd_same (N5.deal S4 D4) (G5.new ht) A0 A3 (by omega) ⟨by omega, fun u hu => ?_⟩
        have hu5 := R5 u hu
        refine ⟨by omega, fun z hz => ?_⟩
        obtain ⟨t, ht, hz'⟩ := hu5.2 z hz
        have := (R4 t ht).2 z hz'
        omega
end
end Lk

set_option Elab.async false
set_option maxRecDepth 100000
set_option maxHeartbeats 1000000
namespace Lk
open PySem L2
abbrev s_law_draw : Stmt := top 33
abbrev N_law_draw : List Str := ["script", "salt", "cells", "cell", "blend"]
abbrev P_law_draw : List Str := ["script", "salt"]
theorem sc_law_draw : FnScope N_law_draw P_law_draw (defScope s_law_draw) := ⟨rfl, rfl, rfl, by decide +kernel, rfl, by decide +kernel, by decide +kernel⟩
/-- a deal is made of the script -/
def spDraw (K : PySem.W.Frag) : Sp := fun vs H Q _ => ∃ (a : Addr) (ns : List Int) (salt : Int), vs = [.ref a, .int salt] ∧ SqL K H a (ns.map V.int) ∧ ns.length ≤ 63 ∧ 0 ≤ salt ∧ salt ≤ 1000 ∧
  ∀ (H' : Hp) (d l : Addr), DealAt H' d l → Same H H' → H d = none → H l = none → Q (.ref d) H'
/-- a drawn machine, with up to five commands -/
def spWide : Sp := fun vs H Q _ => ∃ (d l : Addr) (most : Int), vs = [.ref d, .int most] ∧ 0 < most ∧ most ≤ 100 ∧ DealAt H d l ∧
  ∀ (H' : Hp) (t p : Addr) (A : Nat) (ts : List (Addr × List Int)), DealAt H' d l → SB d l H H' → H t = none → H' t = some (.tup [.int A, .ref p]) → NewG H p ts → GridAt H' p ts → 0 < A → A ≤ 5 → (ts.length : Int) ≤ most → RowsOk A ts → Q (.ref t) H'
theorem cut_ints (ns : List Int) (lo hi : Option Int) : ∃ ms : List Int, cutV (ns.map V.int) lo hi = ms.map V.int ∧ ms.length ≤ ns.length := by
  refine ⟨(ns.drop (HT.sIx (ns.map V.int).length 0 lo)).take (HT.sIx (ns.map V.int).length (ns.map V.int).length hi - HT.sIx (ns.map V.int).length 0 lo), ?_, ?_⟩
  · unfold cutV
    rw [← List.map_drop, ← List.map_take]
  · rw [List.length_take, List.length_drop]
    omega
theorem cut48 (ns : List Int) : ∃ ms : List Int, cutV (ns.map V.int) none (some 48) = ms.map V.int ∧ ms.length ≤ 48 := by
  refine ⟨(ns.drop (HT.sIx (ns.map V.int).length 0 none)).take (HT.sIx (ns.map V.int).length (ns.map V.int).length (some 48) - HT.sIx (ns.map V.int).length 0 none), ?_, ?_⟩
  · unfold cutV
    rw [← List.map_drop, ← List.map_take]
  · rw [List.length_take]
    have e : HT.sIx (ns.map V.int).length (ns.map V.int).length (some 48) ≤ 48 := by
      show (if (48 : Int) < 0 then ((48 : Int) + (((ns.map V.int).length : Nat) : Int)).toNat else min (48 : Int).toNat (ns.map V.int).length) ≤ 48
      rw [if_neg (by decide)]
      exact Nat.min_le_left _ _
    omega
section
variable {P : Program} {w : World} {K : PySem.W.Frag} {mg : Str → Option Value} {base : Heap}
theorem ok_draw {f : Addr} {fd : FuncData} (A0 : Df K mg "_law_draw" s_law_draw f fd P_law_draw) (T : Txt mg) : FnOk P w K mg base CX0 1 f fd P_law_draw (spDraw K) := by
  refine A0.F.ok sc_law_draw (fun vs H Q E h => ?_) (fun cdv A outer s H vs Q E hr h => ?_)
  · obtain ⟨a, ns, salt, rfl, _⟩ := h
    rfl
  · obtain ⟨a, ns, salt, rfl, hS, hl, s0, s1, k⟩ := h
    refine ⟨_, (pss_cons (ps_setLc (i := 2) (own := [("cell", 3)]) (g := gName 3) (tt := tYes) rfl sc_law_draw.nd rfl rfl (sw_true rfl rfl rfl (by decide +kernel)) (pi_list (pe_slice sl_list (pv 0) po_none (po_some pe_int))) (blkOk_by (N := N_law_draw) (sc := defScope s_law_draw) (by decide +kernel)) (fun _ _ _ _ _ => (pg_name (i := 3) sc_law_draw.nd rfl (Or.inl rfl))) (fun _ _ _ _ _ => pts_nil) (fun _ _ _ _ _ => (pe_callB call_abs (by rfl) T.abs (by decide +kernel) (pa_cons (pe_callTy call_int1 (by rfl) T.int (by decide +kernel) (pa_cons (pv 3) pa_nil)) pa_nil))))
    (pss_cons (ps_set (i := 4) sc_law_draw.nd rfl (Or.inl rfl) (pe_op op_add pe_int (pe_op op_mul pe_int (pv 1))))
    (pss_cons (ps_for PassesOwn.never rfl (pi_list (pv 2)) (pg_name (i := 3) sc_law_draw.nd rfl (Or.inl rfl))
      (pss_one (ps_set (i := 4) sc_law_draw.nd rfl (Or.inl rfl) (pe_op op_mod (pe_callTy call_int1 (by rfl) T.int (by decide +kernel) (pa_cons (pe_op op_add (pe_op op_add (pe_op op_mul (pv 4) pe_int) (pe_op op_mod (pv 3) pe_int)) pe_int) pa_nil)) pe_int))))
    (pss_one (ps_ret (pe_lst (pa_cons (pe_revL (pe_lc (own := [("cell", 3)]) (g := gName 3) rfl sc_law_draw.nd (pi_list (pv 2)) (blkOk_by (N := N_law_draw) (sc := defScope s_law_draw) (by decide +kernel)) (fun _ _ _ _ _ => (pg_name (i := 3) sc_law_draw.nd rfl (Or.inl rfl))) (fun _ _ _ _ _ => (pts_one (pt_cmpR op_ge (pv 3) (pe_op op_pow pe_int pe_int) (nomark _)))) (fun _ _ _ _ _ => (pv 3)))) (pa_cons (pv 4) pa_nil)))))))), ?_⟩
    obtain ⟨ms, em, hm⟩ := cut48 ns
    refine ⟨_, rfl, _, rfl, a, _, rfl, hS, fun p hp => ⟨p, rfl, ⟨_, SqL.of upd_same⟩, fun D hD => ?_⟩⟩
    rw [em] at hD ⊢
    have hpD : ∀ {o}, upd (upd H p (HO.lst (ms.map V.int))) D o p = some (.lst (ms.map V.int)) := nk upd_same hD
    refine lcL (xs := ms.map V.int) (fun _ => False) (fun _ => True) (fun _ y _ => ∃ z : Int, y = V.int z ∧ 0 ≤ z) hD id (by rw [List.length_map]; omega) trivial (fun _ _ _ => trivial) (fun _ _ _ _ _ x => x) (fun H2 kp => SqL.of (kp.get id upd_same)) (fun j x H2 acc hj _ k2 _ Q2 kQ => ?_) (fun ys H2 hl2 hf hD2 _ k2 => ?_)
    · obtain ⟨z, rfl⟩ : ∃ z, x = V.int z := by
        obtain ⟨z, _, e⟩ := List.mem_map.mp (mem_of_get hj)
        exact ⟨z, e.symm⟩
      exact ⟨_, rfl, .inl ⟨_, rfl, _, rfl, kQ _ _ trivial (KP.refl _ _) ⟨_, rfl, by split <;> omega⟩⟩⟩
    obtain ⟨cs, rfl, hc⟩ := collect (g := V.int) hf
    have hcs : cs.length ≤ 48 := by
      rw [List.length_map, List.length_map] at hl2
      omega
    have c0 : ∀ z ∈ cs, 0 ≤ z := all_of_get hc
    have S2 : Same H H2 := ((KP.new (S := fun _ => False) hp).trans k2).toSame
    have nD : H D = none := ff hp hD
    refine ⟨_, rfl, _, _, rfl, rfl, .inl ⟨by decide, by decide⟩, _, _, rfl, rfl, ?_⟩
    refine ⟨_, rfl, D, rfl, ⟨_, SqL.of hD2⟩, for_list (K := K) (a := D) (xs := cs.map V.int) (fun i σ H3 => H3 = H2 ∧ ∃ (b : Int) (v : Option V), σ = [some (.ref a), some (.int salt), some (.ref D), v, some (.int b)] ∧ 0 ≤ b ∧ b < 2147483647) ⟨rfl, _, none, rfl, by omega, by omega⟩ (fun i σ H3 _ x => by rw [x.1]; exact SqL.of hD2) ?_ ?_⟩
    · rintro i x σ H3 hi ⟨rfl, b, v, rfl, b0, b1⟩
      obtain ⟨z, rfl⟩ : ∃ z, x = V.int z := by
        obtain ⟨z, _, e⟩ := List.mem_map.mp (mem_of_get hi)
        exact ⟨z, e.symm⟩
      refine ⟨_, rfl, _, _, rfl, rfl, .inr ⟨by decide, by decide⟩, _, rfl, _, _, rfl, rfl, (by show (0 : Int) < 2147483549; decide), _, _, rfl, rfl, _, _, rfl, rfl, .inl ⟨_, rfl, _, _, rfl, rfl, (by show (0 : Int) < 2147483647; decide), ?_⟩⟩
      exact ⟨rfl, _, _, rfl, Int.emod_nonneg _ (by decide), Int.emod_lt_of_pos _ (by decide)⟩
    · rintro σ H3 ⟨rfl, b, v, rfl, b0, b1⟩
      refine ⟨_, rfl, D, rfl, ⟨_, SqL.of hD2⟩, fun q hq => ?_⟩
      refine lc_list (xs := cs.map V.int) (fun i H4 => Same H3 H4 ∧ ∃ gs : List Int, H4 q = some (.lst (gs.map V.int)) ∧ gs.length ≤ i ∧ ∀ z ∈ gs, 0 ≤ z) ⟨(KP.new (S := fun _ => False) hq).toSame, [], upd_same, Nat.le_refl _, fun z hz => nomatch hz⟩ (fun i H4 _ x => SqL.of (x.1 _ _ hD2)) (fun i x H4 hi x4 => ?_) (fun H4 x4 => ?_)
      · obtain ⟨z, hz, rfl⟩ := List.mem_map.mp (mem_of_get hi)
        obtain ⟨S4, gs, e4, l4, p4⟩ := x4
        have hi48 : i < 48 := by
          have := (List.getElem?_eq_some_iff.mp hi).1
          rw [List.length_map] at this
          omega
        refine ⟨wipe1 _ _ _, _, rfl, _, _, rfl, rfl, ⟨by decide, by decide, by decide⟩, _, _, rfl, rfl, _, rfl, ite2 (fun _ => ?_) (fun _ => ⟨S4, gs, e4, by omega, p4⟩)⟩
        refine ⟨_, rfl, _, e4, ?_, ?_, gs ++ [z], ?_, ?_, ?_⟩
        · rw [List.length_map]
          exact Nat.lt_of_le_of_lt (by omega : _ ≤ 48) (by decide)
        · exact ((KP.same (S := fun _ => False) S4).mut hq).toSame
        · rw [upd_same, List.map_append]
          rfl
        · rw [List.length_append]
          simp only [List.length_cons, List.length_nil]
          omega
        · intro y hy
          rcases List.mem_append.mp hy with h | h
          · exact p4 y h
          · rw [List.mem_singleton.mp h]
            exact c0 z hz
      · obtain ⟨S4, gs, e4, l4, p4⟩ := x4
        rw [List.length_map] at l4
        refine ⟨q, _, rfl, SqL.of e4, fun l hl => ⟨_, rfl, by show 2 ≤ sizeLine; decide, fun d hd => ?_⟩⟩
        rw [← List.map_reverse] at hd ⊢
        have nl : H l = none := (S2.trans S4).free hl
        refine k _ d l ⟨gs.reverse, b, ⟨upd_same, nk upd_same hd, fun y hy => p4 y (List.mem_reverse.mp hy), by rw [List.length_reverse]; omega, b0, b1⟩⟩ ?_ ((S2.trans S4).free (ff hl hd)) nl
        exact (((KP.same (S := fun _ => False) (S2.trans S4)).trans (KP.new hl)).trans (KP.new hd)).toSame
end
end Lk

set_option Elab.async false
set_option maxRecDepth 100000
set_option maxHeartbeats 1000000
namespace Lk
open PySem L2
def rLs (K : PySem.W.Frag) : List V → Hp → VK → Prop := fun xs H Q => ∃ p ys, xs = [.ref p] ∧ (SqL K H p ys ∨ SqT K H p ys) ∧ ∀ l, H l = none → Q (.ref l) (upd H l (.lst ys))
def rLn (K : PySem.W.Frag) : List V → Hp → VK → Prop := fun xs H Q => ∃ p ys, xs = [.ref p] ∧ (SqL K H p ys ∨ SqT K H p ys) ∧ Q (.int ys.length) H
theorem cases_list {α : Type} {xs : List α} {i : Nat} {x : α} (h : xs[i]? = some x) : i < xs.length := (List.getElem?_eq_some_iff.mp h).1
theorem grid_get {ts : List (Addr × List Int)} {i : Nat} {x : V} (h : (ts.map fun t => V.ref t.1)[i]? = some x) : ∃ t ∈ ts, x = V.ref t.1 := by
  obtain ⟨t, ht, e⟩ := List.mem_map.mp (mem_of_get h)
  exact ⟨t, ht, e.symm⟩
section
variable {P : Program} {w : World} {K : PySem.W.Frag} {mg : Str → Option Value} {base : Heap}
end
end Lk

set_option Elab.async false
set_option maxRecDepth 100000
set_option maxHeartbeats 1000000
namespace Lk
open PySem L2
theorem take_next {α : Type} : ∀ {xs : List α} {i : Nat} {x : α}, xs[i]? = some x → xs.take (i + 1) = xs.take i ++ [x]
  | [], _, _, h => by simp at h
  | y :: xs, 0, x, h => by
    have e : y = x := Option.some.inj h
    rw [e]
    rfl
  | y :: xs, i + 1, x, h => by
    show y :: xs.take (i + 1) = y :: (xs.take i ++ [x])
    rw [take_next (xs := xs) (i := i) h]
theorem sameT {K : PySem.W.Frag} {H H' : Hp} {a : Addr} {xs : List V} (e : Same H H') (h : SqT K H a xs) : SqT K H' a xs := by
  rcases h with (h | ⟨o, h⟩) | h
  · exact .inl (.inl (e _ _ h))
  · exact .inl (.inr ⟨o, e _ _ h⟩)
  · exact .inr h
section
variable {K : PySem.W.Frag} {j : Nat} {te : TE} {σ : St} {H1 : Hp} {D : Addr} {Qd : Hp → Prop}

theorem lcPL {a : Addr} {xs : List V} (F : V → V) (hD : H1 D = none) (hn : xs.length ≤ 1000000) (ha : SqL K H1 a xs)
    (hs : ∀ x ∈ xs, ∀ H, Same H1 H → ∀ Q : VK, (∀ H4, Same H H4 → Q (F x) H4) → te ((wipe σ [j]).set j (some x)) H Q)
    (hd : ∀ H', H' D = some (.lst (xs.map F)) → Same H1 H' → Qd H') :
    ∃ W : Nat → Nat → Hp → Prop, (∃ m, W 0 m (upd H1 D (.lst []))) ∧ ∀ i m H, W i m H →
      ((Itl K a).stop i H ∧ Qd H) ∨ ((Itl K a).go i H ∧ ∃ Nx : Hp → Prop, (∀ H', Nx H' → ∃ m', m' < m ∧ W (i + 1) m' H') ∧ ∀ x H', (Itl K a).yld i H x H' → gName j x (wipe σ [j]) H' fun σ2 H2 => wipe σ2 [j] = wipe σ [j] ∧ tYes σ2 H2 fun b H3 =>
        if b = true then te σ2 H3 fun y H4 => ∃ acc, H4 D = some (.lst acc) ∧ acc.length < sizeLine ∧ Nx (upd H4 D (.lst (acc ++ [y]))) else Nx H3) := by
  refine lc_list (xs := xs) (fun i H => Same H1 H ∧ H D = some (.lst ((xs.take i).map F))) ⟨(KP.new (S := fun _ => False) hD).toSame, upd_same⟩ (fun i H _ x => Same.seq x.1 ha) (fun i x0 H hi x => ?_) (fun H x => ?_)
  · refine ⟨wipe1 _ _ _, iteT (B := Same H1 H ∧ H D = some (.lst ((xs.take (i + 1)).map F))) ?_⟩
    refine hs x0 (mem_of_get hi) H x.1 _ fun H4 S4 => ⟨_, S4 _ _ x.2, ?_, ((KP.same (S := fun _ => False) (x.1.trans S4)).mut hD).toSame, ?_⟩
    · rw [List.length_map, List.length_take]
      exact Nat.lt_of_le_of_lt (Nat.le_trans (Nat.min_le_right _ _) hn) (by decide)
    · rw [upd_same, take_next hi, List.map_append]
      rfl
  · have e := x.2
    rw [List.take_length] at e
    exact hd H e x.1

theorem lcPT {a : Addr} {xs : List V} (F : V → V) (hD : H1 D = none) (hn : xs.length ≤ 1000000) (ha : SqT K H1 a xs)
    (hs : ∀ x ∈ xs, ∀ H, Same H1 H → ∀ Q : VK, (∀ H4, Same H H4 → Q (F x) H4) → te ((wipe σ [j]).set j (some x)) H Q)
    (hd : ∀ H', H' D = some (.lst (xs.map F)) → Same H1 H' → Qd H') :
    ∃ W : Nat → Nat → Hp → Prop, (∃ m, W 0 m (upd H1 D (.lst []))) ∧ ∀ i m H, W i m H →
      ((Itt K a).stop i H ∧ Qd H) ∨ ((Itt K a).go i H ∧ ∃ Nx : Hp → Prop, (∀ H', Nx H' → ∃ m', m' < m ∧ W (i + 1) m' H') ∧ ∀ x H', (Itt K a).yld i H x H' → gName j x (wipe σ [j]) H' fun σ2 H2 => wipe σ2 [j] = wipe σ [j] ∧ tYes σ2 H2 fun b H3 =>
        if b = true then te σ2 H3 fun y H4 => ∃ acc, H4 D = some (.lst acc) ∧ acc.length < sizeLine ∧ Nx (upd H4 D (.lst (acc ++ [y]))) else Nx H3) := by
  refine lc_tup (xs := xs) (fun i H => Same H1 H ∧ H D = some (.lst ((xs.take i).map F))) ⟨(KP.new (S := fun _ => False) hD).toSame, upd_same⟩ (fun i H _ x => sameT x.1 ha) (fun i x0 H hi x => ?_) (fun H x => ?_)
  · refine ⟨wipe1 _ _ _, iteT (B := Same H1 H ∧ H D = some (.lst ((xs.take (i + 1)).map F))) ?_⟩
    refine hs x0 (mem_of_get hi) H x.1 _ fun H4 S4 => ⟨_, S4 _ _ x.2, ?_, ((KP.same (S := fun _ => False) (x.1.trans S4)).mut hD).toSame, ?_⟩
    · rw [List.length_map, List.length_take]
      exact Nat.lt_of_le_of_lt (Nat.le_trans (Nat.min_le_right _ _) hn) (by decide)
    · rw [upd_same, take_next hi, List.map_append]
      rfl
  · have e := x.2
    rw [List.take_length] at e
    exact hd H e x.1

theorem lcPR {n : Nat} (F : Nat → V) (hD : H1 D = none) (hn : n ≤ 1000000)
    (hs : ∀ i, i < n → ∀ H, Same H1 H → ∀ Q : VK, (∀ H4, Same H H4 → Q (F i) H4) → te ((wipe σ [j]).set j (some (.int (0 + i)))) H Q)
    (hd : ∀ H', H' D = some (.lst ((List.range n).map F)) → Same H1 H' → Qd H') :
    ∃ W : Nat → Nat → Hp → Prop, (∃ m, W 0 m (upd H1 D (.lst []))) ∧ ∀ i m H, W i m H →
      ((Itr 0 n).stop i H ∧ Qd H) ∨ ((Itr 0 n).go i H ∧ ∃ Nx : Hp → Prop, (∀ H', Nx H' → ∃ m', m' < m ∧ W (i + 1) m' H') ∧ ∀ x H', (Itr 0 n).yld i H x H' → gName j x (wipe σ [j]) H' fun σ2 H2 => wipe σ2 [j] = wipe σ [j] ∧ tYes σ2 H2 fun b H3 =>
        if b = true then te σ2 H3 fun y H4 => ∃ acc, H4 D = some (.lst acc) ∧ acc.length < sizeLine ∧ Nx (upd H4 D (.lst (acc ++ [y]))) else Nx H3) := by
  refine lc_range (fun i H => Same H1 H ∧ H D = some (.lst ((List.range i).map F))) ⟨(KP.new (S := fun _ => False) hD).toSame, upd_same⟩ (fun i H hi x => ?_) (fun H x => hd H x.2 x.1)
  refine ⟨wipe1 _ _ _, iteT (B := Same H1 H ∧ H D = some (.lst ((List.range (i + 1)).map F))) ?_⟩
  refine hs i hi H x.1 _ fun H4 S4 => ⟨_, S4 _ _ x.2, ?_, ((KP.same (S := fun _ => False) (x.1.trans S4)).mut hD).toSame, ?_⟩
  · rw [List.length_map, List.length_range]
    exact Nat.lt_of_le_of_lt (Nat.le_trans (Nat.le_of_lt hi) hn) (by decide)
  · rw [upd_same, List.range_succ, List.map_append]
    rfl
end
/-! ### the law's own walks, as functions -/
def stp (rs : List (List Int)) (s c : Int) : Int := (rs.getD s.toNat []).getD c.toNat 0
def led (rs : List (List Int)) (s : Int) (ns : List Int) : Int := ns.foldl (stp rs) s
def effs (rs : List (List Int)) (ns : List Int) : List Int := (List.range rs.length).map fun (s : Nat) => led rs (s : Int) ns
def comp (f g : List Int) : List Int := f.map fun s => g.getD s.toNat 0
def powG : Nat → Nat → List Int → List Int → List Int
  | 0, _, _, found => found
  | k + 1, t, one, found => if t = 0 then found else powG k (t / 2) (comp one one) (if t % 2 = 1 then comp found one else found)
/-- a machine's rows: states are below their number, commands below A -/
structure Rs (A : Nat) (rs : List (List Int)) : Prop where
  pos : 0 < rs.length
  row : ∀ r ∈ rs, r.length = A ∧ ∀ z ∈ r, 0 ≤ z ∧ z < (rs.length : Int)
theorem RowsOk.rs {A : Nat} {ts : List (Addr × List Int)} (x : RowsOk A ts) : Rs A (ts.map (·.2)) := by
  refine ⟨by rw [List.length_map]; exact x.pos, fun r hr => ?_⟩
  obtain ⟨t, ht, rfl⟩ := List.mem_map.mp hr
  rw [List.length_map]
  exact x.row t ht
theorem getD_of {α : Type} {xs : List α} {i : Nat} {d x : α} (h : xs[i]? = some x) : xs.getD i d = x := by
  rw [List.getD_eq_getElem?_getD, h] <;> rfl
/-- an index below, as an item -/
theorem item_of {α : Type} {xs : List α} {s : Int} (h0 : 0 ≤ s) (h1 : s < (xs.length : Int)) (d : α) : xs[s.toNat]? = some (xs.getD s.toNat d) := by
  have h : s.toNat < xs.length := by omega
  rw [List.getElem?_eq_getElem h, getD_of (List.getElem?_eq_getElem h)]
theorem Rs.stp {A : Nat} {rs : List (List Int)} (x : Rs A rs) {s c : Int} (s0 : 0 ≤ s) (s1 : s < rs.length) (c0 : 0 ≤ c) (c1 : c < A) : 0 ≤ Lk.stp rs s c ∧ Lk.stp rs s c < (rs.length : Int) := by
  have hm := mem_of_get (item_of s0 s1 ([] : List Int))
  obtain ⟨h1, h2⟩ := x.row _ hm
  exact h2 _ (mem_of_get (item_of c0 (by rw [h1]; exact c1) (0 : Int)))
theorem Rs.led {A : Nat} {rs : List (List Int)} (x : Rs A rs) : ∀ {ns : List Int} {s : Int}, 0 ≤ s → s < rs.length → (∀ c ∈ ns, 0 ≤ c ∧ c < (A : Int)) → 0 ≤ Lk.led rs s ns ∧ Lk.led rs s ns < (rs.length : Int)
  | [], s, h0, h1, _ => ⟨h0, h1⟩
  | c :: ns, s, h0, h1, h => by
    obtain ⟨c0, c1⟩ := h c List.mem_cons_self
    obtain ⟨q0, q1⟩ := x.stp h0 h1 c0 c1
    exact x.led (ns := ns) q0 q1 fun z hz => h z (List.mem_cons_of_mem _ hz)
end Lk

set_option Elab.async false
set_option maxRecDepth 100000
set_option maxHeartbeats 1000000
namespace Lk
open PySem L2
/-- a drawn row -/
def spRow : Sp := fun vs H Q _ => ∃ (d l : Addr) (A n : Int), vs = [.ref d, .int A, .int n] ∧ 0 < A ∧ A ≤ 1000 ∧ 0 ≤ n ∧ n ≤ 1000 ∧ DealAt H d l ∧
  ∀ (H' : Hp) (p : Addr) (ns : List Int), DealAt H' d l → SB d l H H' → H p = none → H' p = some (.tup (ns.map V.int)) → (ns.length : Int) = n → (∀ z ∈ ns, 0 ≤ z ∧ z < A) → Q (.ref p) H'
def rsOf (ts : List (Addr × List Int)) : List (List Int) := ts.map (·.2)
def spLed (K : PySem.W.Frag) : Sp := fun vs H Q _ => ∃ (a p : Addr) (s : Int) (A : Nat) (ts : List (Addr × List Int)) (ns : List Int), vs = [.ref a, .int s, .ref p] ∧ GridAt H a ts ∧ RowsOk A ts ∧ 0 ≤ s ∧ s < ts.length ∧ SqT K H p (ns.map V.int) ∧ (∀ c ∈ ns, 0 ≤ c ∧ c < (A : Int)) ∧
  Q (.int (led (rsOf ts) s ns)) H
def spEffect (K : PySem.W.Frag) : Sp := fun vs H Q _ => ∃ (a p : Addr) (A : Nat) (ts : List (Addr × List Int)) (ns : List Int), vs = [.ref a, .ref p] ∧ GridAt H a ts ∧ RowsOk A ts ∧ ts.length ≤ 1000 ∧ SqT K H p (ns.map V.int) ∧ (∀ c ∈ ns, 0 ≤ c ∧ c < (A : Int)) ∧
  ∀ (H' : Hp) (q : Addr), Same H H' → H q = none → H' q = some (.tup ((effs (rsOf ts) ns).map V.int)) → Q (.ref q) H'
def rng (n : Nat) : List Int := (List.range n).map fun (i : Nat) => (i : Int)
def spPower (K : PySem.W.Frag) : Sp := fun vs H Q _ => ∃ (a : Addr) (t : Int) (fs : List Int), vs = [.ref a, .int t] ∧ SqL K H a (fs.map V.int) ∧ fs.length ≤ 1000 ∧ (∀ z ∈ fs, 0 ≤ z ∧ z < (fs.length : Int)) ∧ 0 ≤ t ∧ t < 2 ^ 63 ∧
  ∀ (H' : Hp) (q : Addr), Same H H' → H q = none → H' q = some (.tup ((powG 63 t.toNat fs (rng fs.length)).map V.int)) → Q (.ref q) H'
theorem rsOf_get {ts : List (Addr × List Int)} {i : Nat} {u : Addr × List Int} (h : ts[i]? = some u) : (rsOf ts)[i]? = some u.2 := by
  show (ts.map (·.2))[i]? = _
  rw [List.getElem?_map, h]
  rfl
section
variable {P : Program} {w : World} {K : PySem.W.Frag} {mg : Str → Option Value} {base : Heap}
def fC (one : List Int) : V → V
  | .int s => .int (one.getD s.toNat 0)
  | x => x
theorem fC_map (f g : List Int) : (f.map V.int).map (fC g) = (comp f g).map V.int := by
  unfold comp
  rw [List.map_map, List.map_map]
  rfl
structure InR (n : Nat) (f : List Int) : Prop where
  len : f.length = n
  mem : ∀ z ∈ f, 0 ≤ z ∧ z < (n : Int)
theorem InR.comp {n : Nat} {f g : List Int} (x : InR n f) (y : InR n g) : InR n (Lk.comp f g) := by
  refine ⟨by unfold Lk.comp; rw [List.length_map, x.len], fun z hz => ?_⟩
  obtain ⟨s, hs, rfl⟩ := List.mem_map.mp hz
  obtain ⟨s0, s1⟩ := x.mem s hs
  exact y.mem _ (mem_of_get (item_of s0 (by rw [y.len]; exact s1) (0 : Int)))
theorem InR.rng (n : Nat) : InR n (Lk.rng n) := by
  refine ⟨by unfold Lk.rng; simp, fun z hz => ?_⟩
  obtain ⟨i, hi, rfl⟩ := List.mem_map.mp hz
  have := List.mem_range.mp hi
  omega
theorem rgV_rng (n : Nat) : rgV 0 (n : Int) = (rng n).map V.int := by
  unfold rgV rng
  rw [List.map_map]
  simp
end
end Lk

set_option Elab.async false
set_option maxRecDepth 100000
set_option maxHeartbeats 1000000
/-! enumerate over a tuple, as a walk of the hand layer -/
namespace Lk
open PySem PySem.Spec PyProof.Rows L2
/-- a new enumerate object over the iterator at it -/
def enumO (it : Addr) : Obj := { cls := .type "enumerate", data := .fields #[.none, .bool false, .ref it, rawInt 0, .none, .none] }
theorem meets_enumT (a : Addr) (items : Array Value) (dct : Option Addr) (n : Nat) (sl : Array (Option Value)) :
    Meets (Builtin.«enumerate.__new__» ⟨[.type "enumerate", .ref a], []⟩) (fun _ R s =>
      s.heap.get? a = some { cls := .type "tuple", dict := dct, data := .seq items n, slots := sl } ∧
      R (.ok (.ret (.ref (s.heap.push { cls := .type "tuple_iterator", data := .fields #[.ref a, .int 0 0] }).objs.size)))
        { s with heap := (s.heap.push { cls := .type "tuple_iterator", data := .fields #[.ref a, .int 0 0] }).push (enumO s.heap.objs.size) }) :=
  .of_wp fun prog w A R s h => by
    obtain ⟨hp, g, d, tk, os⟩ := s
    obtain ⟨hl, h⟩ := h
    have hsub := sub_enumerate
    have hT : Heap.IsTuple (Shared.heap ⟨hp, g, d, tk, os⟩) a items := ⟨_, hl, rfl, n, rfl⟩
    wp_walk using AutoSeq1.wpAny_loadPart' hl
    refine wpAny_stack_any fun st => wpAny_pure ?_
    split
    · rename_i c _ _ _ _ _
      cases (c == Value.type "enumerate") <;>
      · wp_walk using AutoSeq1.wpAny_loadPart' hl, wpAny_pyIter_tuple hT
        exact ⟨_, rfl, h⟩
    · wp_walk using AutoSeq1.wpAny_loadPart' hl, wpAny_pyIter_tuple hT
      exact ⟨_, rfl, h⟩
section
variable {prog : Program} {w : World} {A : Around} {E : Value → Shared → Prop} {s : Shared}
theorem call_enumT {a : Addr} {items : Array Value} {Q : Value → Shared → Prop} (hT : s.heap.IsTuple a items)
    (h : ∀ h', IsEnum h' (s.heap.objs.size + 1) s.heap.objs.size 0 .none →
      h'.IsTupleIter s.heap.objs.size a 0 →
      (∀ b o, s.heap.get? b = some o → h'.get? b = some o) →
      Q (.ref (s.heap.objs.size + 1)) { s with heap := h' }) :
    wpAny (model prog w) A (call (.type "enumerate") [.ref a]) Q E s := by
  obtain ⟨⟨c, dct, dt, sl⟩, hl, hc, n, hd⟩ := hT
  replace hc : c = .type "tuple" := hc
  replace hd : dt = .seq items n := hd
  subst hc hd
  refine callType_new F.called_enumerate (by decide) (F.typeCall_enumerate_1 _) (F.newCall_enumerate_1 _)
    (fun obj => F.args_object_init_2 obj _) F.entry_enumerate_new (meets_enumT a items dct n sl) ⟨hl, ?_⟩
  have hz : (s.heap.push { cls := .type "tuple_iterator", data := .fields #[.ref a, .int 0 0] }).objs.size
      = s.heap.objs.size + 1 := Heap.size_push ..
  show _ ∧ _
  rw [hz]
  have he : IsEnum ((s.heap.push { cls := .type "tuple_iterator", data := .fields #[.ref a, .int 0 0] }).push (enumO s.heap.objs.size))
      (s.heap.objs.size + 1) s.heap.objs.size 0 .none := by
    have q := Heap.get?_push_size (s.heap.push { cls := .type "tuple_iterator", data := .fields #[.ref a, .int 0 0] })
      (o := enumO s.heap.objs.size) rfl
    rw [hz] at q
    exact q
  have hi : ((s.heap.push { cls := .type "tuple_iterator", data := .fields #[.ref a, .int 0 0] }).push (enumO s.heap.objs.size)).IsTupleIter
      s.heap.objs.size a 0 := ⟨_, Heap.get?_push_of_some _ (Heap.get?_push_size _ rfl), rfl, rfl⟩
  exact ⟨⟨_, he, rfl⟩, h _ he hi fun b o x => Heap.get?_push_of_some _ (Heap.get?_push_of_some _ x)⟩
end
theorem next_enumT_end {prog : Program} {w : World} {A : Around} {E : Value → Shared → Prop} {s : Shared}
    {e it a : Addr} {i : Nat} {items : Array Value} {old : Value} {Q : Option Value → Shared → Prop} (hh : A.handled = none)
    (he : IsEnum s.heap e it i old) (hit : s.heap.IsTupleIter it a i) (ha : s.heap.IsTuple a items) (hx : items[i]? = none)
    (hQ : ∀ h', Heap.ExtBut it s.heap h' → Q none { s with heap := h' }) :
    wpAny (model prog w) A (pyNext (.ref e)) Q E s := by
  have hT : s.TypeIs (.ref e) "enumerate" := ⟨_, he, rfl⟩
  unfold pyNext
  refine wpAny_bind (wpAny_attempt (wpAny_callSpecial?_slot (name := Str.ofString "__next__") hT
    F.slot_enumerate_next (wpAny_call_entry F.slot_enumerate_next hT F.entry_enumerate_next ?_
      (F.args_enumerate_next_1 _))))
  show wpAny _ _ (field (.ref e) 2 >>= _) _ _ _
  refine wpAny_bind (wpAny_field he rfl (x := .ref it) rfl (wpAny_bind
    (wpAny_nextOf_tuple_end hh hit ha hx fun h' x hb hc => ?_)))
  obtain ⟨o, ho, hc⟩ := hc
  refine wpAny_bind (wpAny_isInstance (T := "StopIteration") (b := true) ⟨o, ho, hc⟩ isSubtype_stop ?_)
  exact wpAny_pure (hQ _ hb)
/-- the tuple at a, each item in a new pair with its index -/
def ItE (K : PySem.W.Frag) (a : Addr) : It :=
  ⟨fun i H => ∃ (xs : List V) (x : V), SqT K H a xs ∧ xs[i]? = some x,
    fun i H v H' => ∃ T x, v = .ref T ∧ H T = none ∧ H' = upd H T (.tup [.int (i : Nat), x]) ∧
      ∀ xs, SqT K H a xs → xs[i]? = some x,
    fun i H => ∃ xs : List V, SqT K H a xs ∧ xs.length ≤ i⟩
theorem turn_enumT {P : Program} {w : World} {K : PySem.W.Frag} {elts : List Expr} {kk : Nat} {tpos : Pos} (a e it : Addr) :
    Turn P w K (.Tuple elts kk tpos) (ItE K a) [e, it] e
      (fun i h => (∃ old, IsEnum h e it ((i : Nat) : Int) old) ∧ h.IsTupleIter it a i ∧ e ≠ it ∧ a ≠ it ∧ e ≠ a) where
  mem := by simp
  obj := fun i h st b hb => by
    obtain ⟨⟨old, he⟩, ⟨o, ho, hc, hd⟩, _⟩ := st
    have e' : b = e ∨ b = it := by simpa using hb
    rcases e' with z | z
    · rw [z]
      exact ⟨_, he, fun v q => nomatch q⟩
    · rw [z]
      exact ⟨o, ho, fun v q => by rw [hd] at q; cases q⟩
  keep := fun i h h' st k =>
    let ⟨⟨old, he⟩, hi, hne⟩ := st
    ⟨⟨old, k e (by simp) _ he⟩, hi.at fun o q => k it (by simp) o q, hne⟩
  item := by
    intro X hP hw hK hc i pins s σ H E I hf st hg
    subst hP hw hK
    obtain ⟨⟨old, he⟩, hit, hne, hat, hea⟩ := st
    obtain ⟨xs, x, hq, hx⟩ := hg
    obtain ⟨its, rv, p, hz⟩ := I.tuple hq
    obtain ⟨u, hu, ru⟩ := rv.get hx
    have hel : e < s.heap.objs.size := Heap.lt_size he
    have hil : it < s.heap.objs.size := by obtain ⟨_, q, _⟩ := hit; exact Heap.lt_size q
    have p' : s.heap.IsTuple a its.toArray := p
    have hlt : i < its.toArray.size := by
      have := (List.getElem?_eq_some_iff.mp hu).1
      simpa using this
    have hh : X.A.in1.handled = none := I.ok.hd hc
    refine wpAny_pyNext_enum_itemD (Draws.tuple (prog := X.prog) (w := X.w) (A := X.A.in1) hh it a hat its.toArray) he
      ⟨hit, p'⟩ hlt hne (by simp; exact ⟨hne, hea⟩) fun y h' tk hy ho hst hT hsz hk => ?_
    have ey : y = u := by
      have q : its.toArray[i]? = some u := by simpa using hu
      rw [q] at hy
      exact (Option.some.inj hy).symm
    subst ey
    refine ⟨_, rfl, wpAny_letOwnedTupleGo_enum (s := { s with heap := h', toks := tk + 1 }) ho fun h'' he' sb => ?_⟩
    have hT2 : h''.get? s.heap.objs.size = some { cls := .type "tuple", data := .seq #[.int i tk, y] } :=
      (sb.2 _ (Nat.ne_of_gt hel)).trans hT
    have new : ObjOk X.prog X.w (upd H s.heap.objs.size (.tup [.int (i : Nat), x])) h'' s.heap.objs.size (.tup [.int (i : Nat), x]) :=
      ⟨by show 2 ≤ sizeLine; decide, [.int i tk, y], .cons ⟨_, rfl⟩ (.cons ru .nil), ⟨_, hT2, rfl, _, rfl⟩⟩
    have I1 : Inv X pins σ (upd H s.heap.objs.size (.tup [.int (i : Nat), x])) { s with heap := h'', toks := tk + 1 } :=
      I.turnedNew (ch := [e, it]) (fun b ob hb q => (sb.2 b (fun z => hb (by simp [z]))).trans
        (hk b ob (fun z => hb (by simp [z])) (fun z => hb (by simp [z])) q)) hf (Nat.le_refl _) new
    refine ⟨.ref s.heap.objs.size, _, I1, rfl, ⟨_, x, rfl, I.hok.fresh (Nat.le_refl _), rfl, fun ys hy => by
      rw [I.tuple_inj hy hq]; exact hx⟩, ⟨⟨y, ?_⟩, hst.1.at fun o q => (sb.2 it (Ne.symm hne)).trans q, hne, hat, hea⟩, fun b hb => ?_⟩
    · have e1 : ((i + 1 : Nat) : Int) = (i : Int) + 1 := by omega
      rw [e1]
      exact he'
    · have hb' : b < s.heap.objs.size := by
        have e' : b = e ∨ b = it := by simpa using hb
        rcases e' with z | z
        · rw [z]; exact hel
        · rw [z]; exact hil
      rw [upd_ne (Nat.ne_of_lt hb')]
      exact (hf b hb).1
  done := by
    intro X hP hw hK hc i pins s σ H E I hf st hg
    subst hP hw hK
    obtain ⟨⟨old, he⟩, hit, hne, hat, hea⟩ := st
    obtain ⟨xs, hq, hx⟩ := hg
    obtain ⟨its, rv, p, hz⟩ := I.tuple hq
    obtain ⟨f0, f1, f2, f3, f4, f5⟩ := hf it (by simp)
    have hl := rv.length
    exact next_enumT_end (I.ok.hd hc) he hit (show s.heap.IsTuple a its.toArray from p) (by simp; omega) fun h' eb =>
      ⟨rfl, I.turned (t' := s.toks) (fun b o hb q => eb b o hb q) f0 f1 f3 f4 f5⟩
  self := fun A i s Q E st h => let ⟨⟨_, he⟩, _⟩ := st; wpAny_pyIter_enum he h
def iEnumT (K : PySem.W.Frag) (ta : TA) : TI := fun σ H R => ta σ H fun vs H1 => ∃ a xs, vs = [.ref a] ∧ SqT K H1 a xs ∧ R (ItE K a) H1
theorem pi_enumT {X : Cx} {e : Expr} {ta : TA} {p pos tpos : Pos} {elts : List Expr} {kk : Nat} (hg : Gl X "enumerate")
    (hm : X.mg "enumerate" = none) (ha : PA X [e] ta) (hs : starEach [e] X.env = [(false, eval e X.env)] := by rfl) :
    PI X (.Tuple elts kk tpos) (.Call (.Name "enumerate" p) [e] [] pos) (iEnumT X.K ta) := by
  refine ⟨fun pins s σ H R I h => ?_⟩
  refine Call_ (ld_blt I hg hm boot_enumerate (PyProof.Rows.callWith_type1
    (thn (ha.run pos pins s σ H _ I h) fun us s1 ⟨vs, H1, I1, r1, q1⟩ => ?_) hs rfl))
  obtain ⟨a, xs, ex, hq, q⟩ := q1
  subst ex
  cases r1 with
  | cons r rr =>
    cases rr
    cases r
    obtain ⟨its, rv, p', hz⟩ := I1.tuple hq
    have pT : s1.heap.IsTuple a its.toArray := p'
    have hal : a < s1.heap.objs.size := by obtain ⟨_, q, _⟩ := pT; exact Heap.lt_size q
    refine call_enumT pT fun h' he hit hk => wpAny_pyIter_enum he ?_
    have I2 : Inv X pins σ H1 { s1 with heap := h' } := I1.kept (t' := s1.toks) hk
    refine ⟨s1.heap.objs.size + 1, [s1.heap.objs.size + 1, s1.heap.objs.size], _, _, H1, rfl, I2,
      turn_enumT a (s1.heap.objs.size + 1) s1.heap.objs.size,
      ⟨⟨.none, he⟩, hit, Nat.succ_ne_self _, Nat.ne_of_lt hal, Nat.ne_of_gt (Nat.lt_succ_of_lt hal)⟩, fun b hb => ?_, q⟩
    have hle : s1.heap.objs.size ≤ b := by
      have e' : b = s1.heap.objs.size + 1 ∨ b = s1.heap.objs.size := by simpa using hb
      rcases e' with z | z
      · rw [z]; exact Nat.le_succ _
      · rw [z]; exact Nat.le_refl _
    exact I1.fpOk hle (I1.hok.fresh hle)
end Lk

set_option Elab.async false
set_option maxRecDepth 100000
set_option maxHeartbeats 1000000
namespace Lk
open PySem L2
/-! ### loops over enumerate -/
theorem for_enumT {K : PySem.W.Frag} {a : Addr} {xs : List V} {g : TG} {tb : TS} {D : Ends} {σ : St} {H : Hp} (Pv : Nat → St → Hp → Prop) (h0 : Pv 0 σ H) (hl : ∀ i σ H, Pv i σ H → SqT K H a xs)
    (hs : ∀ i x σ H T, xs[i]? = some x → Pv i σ H → H T = none → g (.ref T) σ (upd H T (.tup [.int (i : Nat), x])) fun σ2 H2 => tb { D with nx := Pv (i + 1), ct := Pv (i + 1), bk := D.nx } σ2 H2)
    (hd : ∀ σ H, Pv xs.length σ H → D.nx σ H) :
    ∃ W : Nat → Nat → St → Hp → Prop, (∃ m, W 0 m σ H) ∧ ∀ i m σ H, W i m σ H →
      ((ItE K a).stop i H ∧ D.nx σ H) ∨ ((ItE K a).go i H ∧ ∃ N : St → Hp → Prop, (∀ σ' H', N σ' H' → ∃ m', m' < m ∧ W (i + 1) m' σ' H') ∧ ∀ x H', (ItE K a).yld i H x H' → g x σ H' fun σ2 H2 => tb { D with nx := N, ct := N, bk := D.nx } σ2 H2) := by
  refine ⟨fun i m σ H => m = xs.length - i ∧ i ≤ xs.length ∧ Pv i σ H, ⟨xs.length, by simp, Nat.zero_le _, h0⟩, ?_⟩
  rintro i m σ H ⟨rfl, hi, p⟩
  have q := hl i σ H p
  by_cases h : i < xs.length
  · refine .inr ⟨⟨xs, xs[i], q, List.getElem?_eq_getElem h⟩, Pv (i + 1), fun σ' H' n => ⟨xs.length - (i + 1), by omega, rfl, by omega, n⟩, ?_⟩
    rintro x H' ⟨T, y, rfl, hT, rfl, hy⟩
    exact hs i y σ H T (hy xs q) p hT
  · have e : i = xs.length := by omega
    subst e
    exact .inl ⟨⟨xs, q, Nat.le_refl _⟩, hd σ H p⟩
theorem for_enumL {K : PySem.W.Frag} {a : Addr} {xs : List V} {g : TG} {tb : TS} {D : Ends} {σ : St} {H : Hp} (Pv : Nat → St → Hp → Prop) (h0 : Pv 0 σ H) (hl : ∀ i σ H, Pv i σ H → SqL K H a xs)
    (hs : ∀ i x σ H T, xs[i]? = some x → Pv i σ H → H T = none → g (.ref T) σ (upd H T (.tup [.int (i : Nat), x])) fun σ2 H2 => tb { D with nx := Pv (i + 1), ct := Pv (i + 1), bk := D.nx } σ2 H2)
    (hd : ∀ σ H, Pv xs.length σ H → D.nx σ H) :
    ∃ W : Nat → Nat → St → Hp → Prop, (∃ m, W 0 m σ H) ∧ ∀ i m σ H, W i m σ H →
      ((Ite K a).stop i H ∧ D.nx σ H) ∨ ((Ite K a).go i H ∧ ∃ N : St → Hp → Prop, (∀ σ' H', N σ' H' → ∃ m', m' < m ∧ W (i + 1) m' σ' H') ∧ ∀ x H', (Ite K a).yld i H x H' → g x σ H' fun σ2 H2 => tb { D with nx := N, ct := N, bk := D.nx } σ2 H2) := by
  refine ⟨fun i m σ H => m = xs.length - i ∧ i ≤ xs.length ∧ Pv i σ H, ⟨xs.length, by simp, Nat.zero_le _, h0⟩, ?_⟩
  rintro i m σ H ⟨rfl, hi, p⟩
  have q := hl i σ H p
  by_cases h : i < xs.length
  · refine .inr ⟨⟨xs, xs[i], q, List.getElem?_eq_getElem h⟩, Pv (i + 1), fun σ' H' n => ⟨xs.length - (i + 1), by omega, rfl, by omega, n⟩, ?_⟩
    rintro x H' ⟨T, y, rfl, hT, rfl, hy⟩
    exact hs i y σ H T (hy xs q) p hT
  · have e : i = xs.length := by omega
    subst e
    exact .inl ⟨⟨xs, q, Nat.le_refl _⟩, hd σ H p⟩

/-! ### any values, as data -/
mutual
inductive Dv (H : Hp) : V → PyData → Prop
  | non : Dv H .non .none
  | bl (b : Bool) : Dv H (.bl b) (.bool b)
  | int (i : Int) : Dv H (.int i) (.int i)
  | str (x : Str) : Dv H (.str x) (.str x)
  | lst {a : Addr} {xs : List V} {ds : List PyData} : H a = some (.lst xs) → DvAll H xs ds → Dv H (.ref a) (.list ds)
  | tup {a : Addr} {xs : List V} {ds : List PyData} : H a = some (.tup xs) → DvAll H xs ds → Dv H (.ref a) (.tuple ds)
  | dct {a : Addr} : H a = some (.dK []) → Dv H (.ref a) (.dict [])
inductive DvAll (H : Hp) : List V → List PyData → Prop
  | nil : DvAll H [] []
  | cons {v : V} {vs : List V} {d : PyData} {ds : List PyData} : Dv H v d → DvAll H vs ds → DvAll H (v :: vs) (d :: ds)
end
mutual
theorem Dv.kp {S : Addr → Prop} {H H' : Hp} (hS : ∀ a, S a → H a = none) (k : KP S H H') : ∀ {v : V} {d : PyData}, Dv H v d → Dv H' v d
  | _, _, .non => .non
  | _, _, .bl b => .bl b
  | _, _, .int i => .int i
  | _, _, .str x => .str x
  | _, _, .lst h t => .lst (k.get (fun s => by rw [hS _ s] at h; cases h) h) (DvAll.kp hS k t)
  | _, _, .tup h t => .tup (k.get (fun s => by rw [hS _ s] at h; cases h) h) (DvAll.kp hS k t)
  | _, _, .dct h => .dct (k.get (fun s => by rw [hS _ s] at h; cases h) h)
theorem DvAll.kp {S : Addr → Prop} {H H' : Hp} (hS : ∀ a, S a → H a = none) (k : KP S H H') : ∀ {vs : List V} {ds : List PyData}, DvAll H vs ds → DvAll H' vs ds
  | _, _, .nil => .nil
  | _, _, .cons h t => .cons (Dv.kp hS k h) (DvAll.kp hS k t)
end
theorem Dv.same {H H' : Hp} {v : V} {d : PyData} (k : Same H H') (h : Dv H v d) : Dv H' v d := h.kp (S := fun _ => False) (fun _ x => x.elim) (KP.same k)
theorem DvAll.same {H H' : Hp} {v : List V} {d : List PyData} (k : Same H H') (h : DvAll H v d) : DvAll H' v d := h.kp (S := fun _ => False) (fun _ x => x.elim) (KP.same k)
theorem DvAll.len {H : Hp} : ∀ {vs : List V} {ds : List PyData}, DvAll H vs ds → vs.length = ds.length
  | _, _, .nil => rfl
  | _, _, .cons _ t => congrArg (· + 1) t.len
theorem DvAll.get {H : Hp} : ∀ {vs : List V} {ds : List PyData} {i : Nat} {v : V}, DvAll H vs ds → vs[i]? = some v → ∃ d, ds[i]? = some d ∧ Dv H v d
  | _, _, i, v, .nil, h => by simp at h
  | _, _, 0, v, .cons h _, e => ⟨_, rfl, by have e' := Option.some.inj e; rw [← e']; exact h⟩
  | _, _, i + 1, v, .cons _ t, e => t.get (i := i) e
def tyD : PyData → String
  | .none => "NoneType"
  | .bool _ => "bool"
  | .int _ => "int"
  | .str _ => "str"
  | .list _ => "list"
  | .tuple _ => "tuple"
  | .dict _ => "dict"
theorem Dv.ty {K : PySem.W.Frag} {H : Hp} {v : V} {d : PyData} : Dv H v d → TyX K H v (.type (tyD d))
  | .non => .base .non
  | .bl b => .base (.bl b)
  | .int i => .base (.int i)
  | .str x => .base (.str x)
  | .lst h _ => .base (.lst h)
  | .tup h _ => .base (.tup h)
  | .dct h => .base (.dK h)
/-- an integer that is no bool; from 0 on; below a limit; a sequence; an entry -/
def isI : PyData → Bool
  | .int _ => true
  | _ => false
def isN : PyData → Bool
  | .int i => decide (0 ≤ i)
  | _ => false
def isB (n : Int) : PyData → Bool
  | .int i => decide (0 ≤ i) && decide (i < n)
  | _ => false
def isS : PyData → Bool
  | .list _ | .tuple _ => true
  | _ => false
def itemsD : PyData → List PyData
  | .list ds | .tuple ds => ds
  | _ => []
def isE (A n : Int) (d : PyData) : Bool := isS d && (decide (((itemsD d).length : Int) = A) && (itemsD d).all (isB n))
abbrev s_is_integer : Stmt := top 6
abbrev N_is_integer : List Str := ["value"]
abbrev P_is_integer : List Str := ["value"]
theorem sc_is_integer : FnScope N_is_integer P_is_integer (defScope s_is_integer) := ⟨rfl, rfl, rfl, by decide +kernel, rfl, by decide +kernel, by decide +kernel⟩
abbrev s_is_number : Stmt := top 7
abbrev N_is_number : List Str := ["value"]
abbrev P_is_number : List Str := ["value"]
theorem sc_is_number : FnScope N_is_number P_is_number (defScope s_is_number) := ⟨rfl, rfl, rfl, by decide +kernel, rfl, by decide +kernel, by decide +kernel⟩
abbrev s_is_below : Stmt := top 8
abbrev N_is_below : List Str := ["value", "limit"]
abbrev P_is_below : List Str := ["value", "limit"]
theorem sc_is_below : FnScope N_is_below P_is_below (defScope s_is_below) := ⟨rfl, rfl, rfl, by decide +kernel, rfl, by decide +kernel, by decide +kernel⟩
abbrev s_is_sequence : Stmt := top 9
abbrev N_is_sequence : List Str := ["value"]
abbrev P_is_sequence : List Str := ["value"]
theorem sc_is_sequence : FnScope N_is_sequence P_is_sequence (defScope s_is_sequence) := ⟨rfl, rfl, rfl, by decide +kernel, rfl, by decide +kernel, by decide +kernel⟩
abbrev s_are_below : Stmt := top 10
abbrev N_are_below : List Str := ["values", "limit", "value"]
abbrev P_are_below : List Str := ["values", "limit"]
theorem sc_are_below : FnScope N_are_below P_are_below (defScope s_are_below) := ⟨rfl, rfl, rfl, by decide +kernel, rfl, by decide +kernel, by decide +kernel⟩
abbrev s_is_entry : Stmt := top 14
abbrev N_is_entry : List Str := ["entry", "commands", "states"]
abbrev P_is_entry : List Str := ["entry", "commands", "states"]
theorem sc_is_entry : FnScope N_is_entry P_is_entry (defScope s_is_entry) := ⟨rfl, rfl, rfl, by decide +kernel, rfl, by decide +kernel, by decide +kernel⟩
/-- a test of one value -/
def spT1 (t : PyData → Bool) : Sp := fun vs H Q _ => ∃ (x : V) (d : PyData), vs = [x] ∧ Dv H x d ∧ ∀ H', Same H H' → Q (.bl (t d)) H'
def spBelow : Sp := fun vs H Q _ => ∃ (x : V) (d : PyData) (n : Int), vs = [x, .int n] ∧ Dv H x d ∧ Q (.bl (isB n d)) H
def spAre : Sp := fun vs H Q _ => ∃ (x : V) (d : PyData) (n : Int), vs = [x, .int n] ∧ Dv H x d ∧ isS d = true ∧ (itemsD d).length ≤ 100000 ∧ ∀ H', Same H H' → Q (.bl ((itemsD d).all (isB n))) H'
def spEntry : Sp := fun vs H Q _ => ∃ (x : V) (d : PyData) (A n : Int), vs = [x, .int A, .int n] ∧ Dv H x d ∧ (itemsD d).length ≤ 100000 ∧ ∀ H', Same H H' → Q (.bl (isE A n d)) H'
theorem Same.new {H : Hp} {p : Addr} {o : HO} (h : H p = none) : Same H (upd H p o) := (KP.new (S := fun _ => False) h).toSame
section
variable {P : Program} {w : World} {K : PySem.W.Frag} {mg : Str → Option Value} {base : Heap}
theorem ok_integer {f : Addr} {fd : FuncData} (A0 : Df K mg "is_integer" s_is_integer f fd P_is_integer) (T : Txt mg) : FnOk P w K mg base CX0 1 f fd P_is_integer (spT1 isI) := by
  refine A0.F.ok sc_is_integer (fun vs H Q E h => ?_) (fun cdv A outer s H vs Q E hr h => ?_)
  · obtain ⟨x, d, rfl, _⟩ := h
    rfl
  · obtain ⟨x, d, rfl, D, k⟩ := h
    refine ⟨_, (pss_one (ps_ret (pe_and (pe_callB call_isi (by rfl) T.isinstance PyProof.Rows.boot_isinstance (pa_cons (pv 0) (pa_cons (pe_bltn (v := .ty "int") (by rfl) T.int (by decide +kernel) rfl) pa_nil)))
      (pe_one (pe_not (pe_callB call_isi (by rfl) T.isinstance PyProof.Rows.boot_isinstance (pa_cons (pv 0) (pa_cons (pe_bltn (v := .ty "bool") (by rfl) T.bool (by decide +kernel) rfl) pa_nil)))))))), ?_⟩
    have key : ∀ (b1 b2 : Bool), PySem.W.kitOne K (.type (tyD d)) (.type "int") = some b1 → PySem.W.kitOne K (.type (tyD d)) (.type "bool") = some b2 → (b1 && !b2) = isI d → tRet (tAndV (tCB (rIsi K) (tCons (tVar 0) (tCons (tC (.ty "int")) tNil))) (tNotV (tCB (rIsi K) (tCons (tVar 0) (tCons (tC (.ty "bool")) tNil))))) { nx := fun _ H' => Q .non H', rt := Q } [some x] H := by
      intro b1 b2 h1 h2 h3
      refine ⟨_, rfl, x, _, _, _, b1, rfl, .ty _, D.ty, h1, b1, rfl, ?_⟩
      cases b1 with
      | false =>
        refine iteF ?_
        rw [show (false : Bool) = isI d from h3]
        exact k _ (Same.refl _)
      | true =>
        refine iteT ⟨_, rfl, x, _, _, _, b2, rfl, .ty _, D.ty, h2, b2, rfl, ?_⟩
        rw [show (!b2) = isI d by rw [← h3, Bool.true_and]]
        exact k _ (Same.refl _)
    cases d with
    | none => exact key false false (kit_ty (a := "NoneType") (by decide +kernel)) (kit_ty (a := "NoneType") (by decide +kernel)) rfl
    | bool b => exact key true true (kit_ty (a := "bool") (by decide +kernel)) (kit_ty (a := "bool") (by decide +kernel)) rfl
    | int i => exact key true false (kit_ty (a := "int") (by decide +kernel)) (kit_ty (a := "int") (by decide +kernel)) rfl
    | str x => exact key false false (kit_ty (a := "str") (by decide +kernel)) (kit_ty (a := "str") (by decide +kernel)) rfl
    | list x => exact key false false (kit_ty (a := "list") (by decide +kernel)) (kit_ty (a := "list") (by decide +kernel)) rfl
    | tuple x => exact key false false (kit_ty (a := "tuple") (by decide +kernel)) (kit_ty (a := "tuple") (by decide +kernel)) rfl
    | dict x => exact key false false (kit_ty (a := "dict") (by decide +kernel)) (kit_ty (a := "dict") (by decide +kernel)) rfl
theorem ok_sequence {f : Addr} {fd : FuncData} (A0 : Df K mg "is_sequence" s_is_sequence f fd P_is_sequence) (T : Txt mg) : FnOk P w K mg base CX0 1 f fd P_is_sequence (spT1 isS) := by
  refine A0.F.ok sc_is_sequence (fun vs H Q E h => ?_) (fun cdv A outer s H vs Q E hr h => ?_)
  · obtain ⟨x, d, rfl, _⟩ := h
    rfl
  · obtain ⟨x, d, rfl, D, k⟩ := h
    refine ⟨_, (pss_one (ps_ret (pe_callB call_isiT (by rfl) T.isinstance PyProof.Rows.boot_isinstance (pa_cons (pv 0) (pa_cons (pe_tup (pa_cons (pe_bltn (v := .ty "list") (by rfl) T.list (by decide +kernel) rfl) (pa_cons (pe_bltn (v := .ty "tuple") (by rfl) T.tuple (by decide +kernel) rfl) pa_nil))) pa_nil))))), ?_⟩
    have key : ∀ (b1 b2 : Bool), PySem.W.kitOne K (.type (tyD d)) (.type "list") = some b1 → PySem.W.kitOne K (.type (tyD d)) (.type "tuple") = some b2 → (b1 || b2) = isS d → tRet (tCB (rIsiT K) (tCons (tVar 0) (tCons (tTup (tCons (tC (.ty "list")) (tCons (tC (.ty "tuple")) tNil))) tNil))) { nx := fun _ H' => Q .non H', rt := Q } [some x] H := by
      intro b1 b2 h1 h2 h3
      refine ⟨_, rfl, by show 2 ≤ sizeLine; decide, fun p hp => ⟨x, p, _, _, [.type "list", .type "tuple"], (b1 || b2), rfl, upd_same, .cons (.ty _) (.cons (.ty _) .nil), (D.same (Same.new hp)).ty, ?_, ?_⟩⟩
      · refine kitAny_cons h1 (fun e => ?_) (fun e => by rw [e]; rfl)
        refine kitAny_cons h2 (fun e2 => by rw [e, e2]; exact kitAny_nil) (fun e2 => by rw [e2, Bool.or_true])
      · rw [h3]
        exact k _ (Same.new hp)
    cases d with
    | none => exact key false false (kit_ty (a := "NoneType") (by decide +kernel)) (kit_ty (a := "NoneType") (by decide +kernel)) rfl
    | bool b => exact key false false (kit_ty (a := "bool") (by decide +kernel)) (kit_ty (a := "bool") (by decide +kernel)) rfl
    | int i => exact key false false (kit_ty (a := "int") (by decide +kernel)) (kit_ty (a := "int") (by decide +kernel)) rfl
    | str x => exact key false false (kit_ty (a := "str") (by decide +kernel)) (kit_ty (a := "str") (by decide +kernel)) rfl
    | list x => exact key true false (kit_ty (a := "list") (by decide +kernel)) (kit_ty (a := "list") (by decide +kernel)) rfl
    | tuple x => exact key false true (kit_ty (a := "tuple") (by decide +kernel)) (kit_ty (a := "tuple") (by decide +kernel)) rfl
    | dict x => exact key false false (kit_ty (a := "dict") (by decide +kernel)) (kit_ty (a := "dict") (by decide +kernel)) rfl
end
end Lk

set_option Elab.async false
set_option maxRecDepth 100000
set_option maxHeartbeats 1000000
namespace Lk
open PySem L2
def isBV (n : Int) : V → Bool
  | .int i => decide (0 ≤ i) && decide (i < n)
  | _ => false
theorem Dv.isBV {H : Hp} {x : V} {d : PyData} {n : Int} (h : Dv H x d) : Lk.isBV n x = isB n d := by
  cases h <;> rfl
theorem DvAll.all {H : Hp} {n : Int} : ∀ {xs : List V} {ds : List PyData}, DvAll H xs ds → (xs.map (Lk.isBV n)).all id = ds.all (isB n)
  | _, _, .nil => rfl
  | _, _, .cons h t => by
    rw [List.map_cons, List.all_cons, List.all_cons, DvAll.all t, h.isBV]
    rfl
def spBelowS : Sp := fun vs H Q _ => ∃ (x : V) (d : PyData) (n : Int), vs = [x, .int n] ∧ Dv H x d ∧ ∀ H', Same H H' → Q (.bl (isB n d)) H'
section
variable {P : Program} {w : World} {K : PySem.W.Frag} {mg : Str → Option Value} {base : Heap}
theorem ok_number {f fi : Addr} {fd fdi : FuncData} (A0 : Df K mg "is_number" s_is_number f fd P_is_number) (d_is_integer : Df K mg "is_integer" s_is_integer fi fdi P_is_integer) (T : Txt mg) : FnOk P w K mg base CX0 2 f fd P_is_number (spT1 isN) := by
  have G_is_integer : FnOk P w K mg base CX0 1 fi fdi P_is_integer (spT1 isI) := ok_integer d_is_integer T
  refine A0.F.ok sc_is_number (fun vs H Q E h => ?_) (fun cdv A outer s H vs Q E hr h => ?_)
  · obtain ⟨x, d, rfl, _⟩ := h
    rfl
  · obtain ⟨x, d, rfl, D, k⟩ := h
    refine ⟨_, (pss_one (ps_ret (pe_and (pe_call G_is_integer (hr.mono (by decide)) rfl d_is_integer.g d_is_integer.F.kp d_is_integer.b .nil pass0 (pa_cons (pv 0) pa_nil)) (pe_one (pe_cmpR op_ge (pv 0) pe_int (nomark _)))))), ?_⟩
    refine ⟨_, rfl, x, d, rfl, D, fun H1 S1 => ⟨isI d, rfl, ?_⟩⟩
    cases D with
    | int i => exact iteT ⟨_, rfl, _, _, rfl, rfl, k _ S1⟩
    | non => exact iteF (k _ S1)
    | bl b => exact iteF (k _ S1)
    | str b => exact iteF (k _ S1)
    | lst _ _ => exact iteF (k _ S1)
    | tup _ _ => exact iteF (k _ S1)
    | dct _ => exact iteF (k _ S1)
theorem ok_below {f fi fn : Addr} {fd fdi fdn : FuncData} (A0 : Df K mg "is_below" s_is_below f fd P_is_below) (d_is_number : Df K mg "is_number" s_is_number fn fdn P_is_number) (d_is_integer : Df K mg "is_integer" s_is_integer fi fdi P_is_integer) (T : Txt mg) : FnOk P w K mg base CX0 3 f fd P_is_below spBelowS := by
  have G_is_number : FnOk P w K mg base CX0 2 fn fdn P_is_number (spT1 isN) := ok_number d_is_number d_is_integer T
  refine A0.F.ok sc_is_below (fun vs H Q E h => ?_) (fun cdv A outer s H vs Q E hr h => ?_)
  · obtain ⟨x, d, n, rfl, _⟩ := h
    rfl
  · obtain ⟨x, d, n, rfl, D, k⟩ := h
    refine ⟨_, (pss_one (ps_ret (pe_and (pe_call G_is_number (hr.mono (by decide)) rfl d_is_number.g d_is_number.F.kp d_is_number.b .nil pass0 (pa_cons (pv 0) pa_nil)) (pe_one (pe_cmpR op_lt (pv 0) (pv 1) (nomark _)))))), ?_⟩
    refine ⟨_, rfl, x, d, rfl, D, fun H1 S1 => ⟨isN d, rfl, ?_⟩⟩
    cases D with
    | int i =>
      show (if decide (0 ≤ i) = true then _ else _)
      have k' : Q (.bl (decide (0 ≤ i) && decide (i < n))) H1 := k H1 S1
      by_cases h0 : 0 ≤ i
      · rw [if_pos (decide_eq_true h0)]
        refine ⟨_, rfl, _, rfl, _, _, rfl, rfl, ?_⟩
        rw [decide_eq_true h0, Bool.true_and] at k'
        exact k'
      · rw [decide_eq_false h0] at k' ⊢
        exact iteF k'
    | non => exact iteF (k _ S1)
    | bl b => exact iteF (k _ S1)
    | str b => exact iteF (k _ S1)
    | lst _ _ => exact iteF (k _ S1)
    | tup _ _ => exact iteF (k _ S1)
    | dct _ => exact iteF (k _ S1)
theorem ok_are {f fi fn fb : Addr} {fd fdi fdn fdb : FuncData} (A0 : Df K mg "are_below" s_are_below f fd P_are_below) (d_is_below : Df K mg "is_below" s_is_below fb fdb P_is_below) (d_is_number : Df K mg "is_number" s_is_number fn fdn P_is_number) (d_is_integer : Df K mg "is_integer" s_is_integer fi fdi P_is_integer) (T : Txt mg) : FnOk P w K mg base CX0 4 f fd P_are_below spAre := by
  have G_is_below : FnOk P w K mg base CX0 3 fb fdb P_is_below spBelowS := ok_below d_is_below d_is_number d_is_integer T
  refine A0.F.ok sc_are_below (fun vs H Q E h => ?_) (fun cdv A outer s H vs Q E hr h => ?_)
  · obtain ⟨x, d, n, rfl, _⟩ := h
    rfl
  · obtain ⟨x, d, n, rfl, D, hS, hl, k⟩ := h
    have fin : ∀ (xs : List V) (ds : List PyData) (H' : Hp) (q : Addr), DvAll H xs ds → itemsD d = ds → Same H H' → H' q = some (.lst (xs.map fun x => V.bl (isBV n x))) → rAll K [.ref q] H' Q := fun xs ds H' q h1 h2 h3 h4 => by
      refine ⟨q, xs.map (isBV n), rfl, SqL.of ?_, ?_⟩
      · rw [h4, List.map_map]
        rfl
      · rw [h1.all, ← h2]
        exact k _ h3
    have el : ∀ (xs : List V) (ds : List PyData) (y : V) (H2 : Hp) (Q2 : VK) (x0 : V), DvAll H xs ds → y ∈ xs → Same H H2 → (∀ H4, Same H2 H4 → Q2 (V.bl (isBV n y)) H4) → tCall spBelowS [] E0 (tCons (tVar 2) (tCons (tVar 1) tNil)) [some x0, some (.int n), some y] H2 Q2 := fun xs ds y H2 Q2 x0 h1 h2 h3 h4 => by
      obtain ⟨i, hi⟩ := List.getElem?_of_mem h2
      obtain ⟨e, _, De⟩ := h1.get hi
      refine ⟨_, rfl, _, rfl, y, e, n, rfl, De.same h3, fun H3 S3 => ?_⟩
      rw [← De.isBV]
      exact h4 _ S3
    cases D with
    | @lst a xs ds ha hx =>
      refine ⟨_, (pss_one (ps_ret (pe_callB (cr_all rfl) (by rfl) T.all PyProof.Rows.boot_all (pa_cons (pe_lc (own := [("value", 2)]) (g := gName 2) (tt := tYes) rfl sc_are_below.nd (pi_list (pv 0)) (blkOk_by (N := N_are_below) (sc := defScope s_are_below) (by decide +kernel)) (fun _ _ _ _ _ => (pg_name (i := 2) sc_are_below.nd rfl (Or.inl rfl))) (fun _ _ _ _ _ => pts_nil) (fun _ _ _ _ _ => (pe_call G_is_below (hr.mono (by decide)) rfl d_is_below.g d_is_below.F.kp d_is_below.b .nil pass0 (pa_cons (pv 2) (pa_cons (pv 1) pa_nil))))) pa_nil)))), ?_⟩
      refine ⟨_, rfl, a, rfl, ⟨_, SqL.of ha⟩, fun q hq => ?_⟩
      refine lcPL (K := K) (fun x => V.bl (isBV n x)) hq (by rw [hx.len]; exact Nat.le_trans hl (by decide)) (SqL.of ha) (fun y hy H2 S2 Q2 kQ => el xs ds y H2 Q2 _ hx hy S2 kQ) (fun H2 e2 S2 => fin xs ds H2 q hx rfl S2 e2)
    | @tup a xs ds ha hx =>
      refine ⟨_, (pss_one (ps_ret (pe_callB (cr_all rfl) (by rfl) T.all PyProof.Rows.boot_all (pa_cons (pe_lc (own := [("value", 2)]) (g := gName 2) (tt := tYes) rfl sc_are_below.nd (pi_tup (pv 0)) (blkOk_by (N := N_are_below) (sc := defScope s_are_below) (by decide +kernel)) (fun _ _ _ _ _ => (pg_name (i := 2) sc_are_below.nd rfl (Or.inl rfl))) (fun _ _ _ _ _ => pts_nil) (fun _ _ _ _ _ => (pe_call G_is_below (hr.mono (by decide)) rfl d_is_below.g d_is_below.F.kp d_is_below.b .nil pass0 (pa_cons (pv 2) (pa_cons (pv 1) pa_nil))))) pa_nil)))), ?_⟩
      refine ⟨_, rfl, a, rfl, ⟨_, SqT.of ha⟩, fun q hq => ?_⟩
      refine lcPT (K := K) (fun x => V.bl (isBV n x)) hq (by rw [hx.len]; exact Nat.le_trans hl (by decide)) (SqT.of ha) (fun y hy H2 S2 Q2 kQ => el xs ds y H2 Q2 _ hx hy S2 kQ) (fun H2 e2 S2 => fin xs ds H2 q hx rfl S2 e2)
    | non => cases hS
    | bl b => cases hS
    | int i => cases hS
    | str z => cases hS
    | dct _ => cases hS
theorem ok_entry {f fi fn fb fs fr : Addr} {fd fdi fdn fdb fds fdr : FuncData} (A0 : Df K mg "_is_entry" s_is_entry f fd P_is_entry) (d_is_sequence : Df K mg "is_sequence" s_is_sequence fs fds P_is_sequence) (d_are_below : Df K mg "are_below" s_are_below fr fdr P_are_below) (d_is_below : Df K mg "is_below" s_is_below fb fdb P_is_below) (d_is_number : Df K mg "is_number" s_is_number fn fdn P_is_number) (d_is_integer : Df K mg "is_integer" s_is_integer fi fdi P_is_integer) (T : Txt mg) : FnOk P w K mg base CX0 5 f fd P_is_entry spEntry := by
  have G_is_sequence : FnOk P w K mg base CX0 1 fs fds P_is_sequence (spT1 isS) := ok_sequence d_is_sequence T
  have G_are_below : FnOk P w K mg base CX0 4 fr fdr P_are_below spAre := ok_are d_are_below d_is_below d_is_number d_is_integer T
  refine A0.F.ok sc_is_entry (fun vs H Q E h => ?_) (fun cdv A outer s H vs Q E hr h => ?_)
  · obtain ⟨x, d, A, n, rfl, _⟩ := h
    rfl
  · obtain ⟨x, d, A, n, rfl, D, hl, k⟩ := h
    refine ⟨_, (pss_one (ps_ret (pe_and (pe_call G_is_sequence (hr.mono (by decide)) rfl d_is_sequence.g d_is_sequence.F.kp d_is_sequence.b .nil pass0 (pa_cons (pv 0) pa_nil)) (pe_and (pe_cmpR op_eq (pe_callB call_len_seq (by rfl) T.len PySem.boot_len (pa_cons (pv 0) pa_nil)) (pv 1) (nomark _)) (pe_one (pe_call G_are_below (hr.mono (by decide)) rfl d_are_below.g d_are_below.F.kp d_are_below.b .nil pass0 (pa_cons (pv 0) (pa_cons (pv 2) pa_nil)))))))), ?_⟩
    refine ⟨_, rfl, x, d, rfl, D, fun H1 S1 => ⟨isS d, rfl, ?_⟩⟩
    have D1 := D.same S1
    have main : ∀ (a : Addr) (xs : List V) (ds : List PyData), x = .ref a → (SqL K H1 a xs ∨ SqT K H1 a xs) → itemsD d = ds → xs.length = ds.length → isS d = true →
        tAndV (tOp rEq (tCB (rLn K) (tCons (tVar 0) tNil)) (tVar 1)) (tCall spAre [] E0 (tCons (tVar 0) (tCons (tVar 2) tNil))) [some x, some (.int A), some (.int n)] H1 Q := by
      intro a xs ds ex hx hi hle hs
      refine ⟨_, rfl, a, xs, by rw [ex], hx, _, rfl, rfl, _, rfl, ?_⟩
      have e : (decide (V.int ((xs.length : Nat) : Int) = V.int A)) = decide ((ds.length : Int) = A) := by
        rw [hle]
        by_cases q : (ds.length : Int) = A
        · rw [decide_eq_true q, q]
          exact decide_eq_true rfl
        · rw [decide_eq_false q]
          exact decide_eq_false fun z => q (by injection z)
      show (if decide (V.int ((xs.length : Nat) : Int) = V.int A) = true then _ else _)
      rw [e]
      have kk : ∀ H', Same H1 H' → Q (.bl (decide ((ds.length : Int) = A) && ds.all (isB n))) H' := fun H' S' => by
        have z := k H' (S1.trans S')
        unfold isE at z
        rw [hs, Bool.true_and, hi] at z
        exact z
      by_cases q : (ds.length : Int) = A
      · rw [decide_eq_true q] at kk ⊢
        refine iteT ⟨_, rfl, _, rfl, x, d, n, rfl, D1, hs, hl, fun H2 S2 => ?_⟩
        rw [hi]
        have z := kk H2 S2
        rw [Bool.true_and] at z
        exact z
      · rw [decide_eq_false q] at kk ⊢
        exact iteF (kk H1 (Same.refl _))
    cases D1 with
    | @lst a xs ds ha hx => exact iteT (main a xs ds rfl (.inl (SqL.of ha)) rfl hx.len rfl)
    | @tup a xs ds ha hx => exact iteT (main a xs ds rfl (.inr (SqT.of ha)) rfl hx.len rfl)
    | non => exact iteF (k _ S1)
    | bl b => exact iteF (k _ S1)
    | int i => exact iteF (k _ S1)
    | str z => exact iteF (k _ S1)
    | dct _ => exact iteF (k _ S1)
end
end Lk

set_option Elab.async false
set_option linter.all false
set_option maxRecDepth 100000
set_option maxHeartbeats 2000000
namespace PySem
namespace ErrX
open PySem.W PySem.Calls PyProof.Rows PySem.HandSPX
/-! ### the text of __init__ -/
def iA (p1 p2 : Pos) : Arguments := { posonlyargs := [], args := [{ arg := "self", annotation := none, pos := p1 }, { arg := "at", annotation := none, pos := p2 }], vararg := none, kwonlyargs := [], kw_defaults := [], kwarg := none, defaults := [] }
def iB (q1 q2 q3 q4 : Pos) : List Stmt := [.Assign [.Attribute (.Name "self" q1) "at" q2] (.Name "at" q3) q4]
def iS : Scope := { kind := .function, names := [(PySem.Str.ofString "self", .local), (PySem.Str.ofString "at", .local)], isGenerator := false, isCoroutine := false, more := [] }
/-- what the written part says of Low, at C, and of its __init__, at fI -/
structure ErrTxt (K : Frag) (mg : Str → Option Value) (cn : Str) (qn : Str) (C fI : Addr) : Prop where
  gC : mg cn = some (.ref C)
  cls : ∃ nm q N bs bm sn sub ab col dd k0 k1 k2 k3 k5, K.lookup C = some (excClassObj nm q C N bs bm true sn sub ab col dd k0 k1 k2 k3 k5 "ValueError.__new__") ∧ refsVE bm = true
  sa : findIn K (.ref C) "__setattr__" = some (some (.builtin "object.__setattr__"))
  ga : findIn K (.ref C) "__getattribute__" = some (some (.builtin "BaseException.__getattribute__"))
  gg : findIn K (.ref C) "__getattr__" = some none
  noN : findIn K (.ref C) "at" = some none
  iC : findIn K (.ref C) "__init__" = some (some (.ref fI))
  tC : typeIn K (.ref fI) = some (.type "function")
  kC : keepIn K (.ref C) = true
  exC : subIn K (.ref C) (.type "BaseException") = some true
  tyC : typeIn K (.ref C) = some (.type "type")
  hdC : hasDictIn K C = true
  te : exmOne K (.ref C) (.ref C) = some true
  fn : ∃ (oc : Value) (od : Option Addr) (doc pm : Value) (an : Option Addr) (cdv ct : Value) (osl : Array (Option Value)) (p1 p2 q1 q2 q3 q4 : Pos),
    K.lookup fI = some ⟨oc, od, .func (fnOf "__init__" qn (iA p1 p2) (iB q1 q2 q3 q4) iS .none .none doc pm an cdv ct), osl⟩ ∧ codeIn K cdv qn = true
theorem one_size (v : Value) : [v].length ≤ sizeLine := by
  rw [sizeLine_eq]
  exact (by decide : 1 ≤ 16777216)
theorem kept_but {K : Frag} {h h' : Heap} {x : Addr} (X : K.In h) (hx : K.lookup x = none) (k : ∀ b o, b ≠ x → h.get? b = some o → h'.get? b = some o) : K.In h' := fun a o e =>
  k a o (fun z => by rw [z, hx] at e; cases e) (X a o e)
theorem ldC {M : Model} {s : Shared} {name : Str} {scope : Scope} {L a : Addr} {cd : Value} {m : Str → Option Value} {x : Str} {pos : Pos} {v : Value} {Q : Value → Shared → Prop} {A : Around} {E : Value → Shared → Prop} (hn : s.heap.Ns L m) (hv : m x = some v) (h : Q v s)
    (hk : scope.kind = .function := by rfl) (hl : (envOfC name scope L a cd).kindOf x = some .local := by rfl) (hd : (x == ("__debug__" : Str)) = false := by decide) :
    wpAny M A (eval (.Name x pos) (envOfC name scope L a cd)) Q E s := wpAny_Name (wpAny_loadName_local hk hl hn hv h) hd
/-- what __init__ leaves of a fresh exception at x -/
structure InitEnd (h h' : Heap) (x C dx t1 : Addr) (v : Value) : Prop where
  keep : ∀ b o, b ≠ x → h.get? b = some o → h'.get? b = some o
  obj : h'.get? x = some { cls := .ref C, dict := some dx, data := .fields #[.ref t1, .none, .none, .none, .bool false, .none] }
  dbig : h.objs.size ≤ dx
  dne : dx ≠ x
  ns : h'.Ns1 dx (fun y => if y = "at" then some v else none)
/-- a made Low -/
structure OwnMade (h h' : Heap) (e C d : Addr) (v : Value) : Prop where
  keep : ∀ b o, h.get? b = some o → h'.get? b = some o
  new : h.objs.size ≤ e
  obj : ∃ oe vs, h'.get? e = some oe ∧ oe.cls = .ref C ∧ oe.dict = some d ∧ oe.data = .fields vs ∧ vs[1]? = some .none
  dbig : h.objs.size ≤ d
  dne : d ≠ e
  ns : h'.Ns1 d (fun y => if y = "at" then some v else none)
section
variable {prog : Program} {w : World} {A : Around} {E : Value → Shared → Prop} {R : Result → Shared → Prop} {s : Shared} {K : Frag} {mg : Str → Option Value} {C fI : Addr} {cn qn : Str}
theorem low_init (T : ErrTxt K mg cn qn C fI) {x t0 : Addr} {v : Value} (X : K.In s.heap) (hlim : s.heap.NoLimit) (hx : s.heap.get? x = some (excO C t0)) (hnx : K.lookup x = none) (hroom : A.depth < recursionLimit)
    (hq : ∀ h' tk dx, InitEnd s.heap h' x C dx t0 v → R (.ok (.ret .none)) { s with heap := h', toks := tk }) :
    codeAny (model prog w) A (.call (.ref fI) ⟨[.ref x, v], []⟩) R s := by
  obtain ⟨oc, od, doc, pm, an, cdv, ct, osl, p1, p2, q1, q2, q3, q4, ho, hcd⟩ := T.fn
  obtain ⟨nm, q, N, bs, bm, sn, sub, ab, col, dd, k0, k1, k2, k3, k5, hC, hbm⟩ := T.cls
  have hcl : clsIn K C = some { name := nm, bases := bs, mro := .ref C :: bm, ns := N, qualname := q, hasDict := true, slotNames := sn, subclasses := sub, abstract := ab, collection := col, hasDel := false } := by unfold clsIn; rw [hC] <;> rfl
  refine Att.call_fn (binds := [("self", .ref x), ("at", v)]) X hlim ho hcd hroom (BindsTo.of_eq (by first | rfl | with_unfolding_all rfl)) (by first | rfl | decide | with_unfolding_all rfl) (fun s₁ IC => ?_) rfl rfl rfl
  obtain ⟨h₁, tk₁, rfl⟩ := IC.toInCall.same
  have k : ∀ b o, s.heap.get? b = some o → h₁.get? b = some o := IC.toInCall.keep
  have hn := IC.toInCall.ns
  have hxL : s.heap.objs.size ≠ x := Nat.ne_of_gt (Heap.lt_size hx)
  have X₁ : K.In h₁ := X.keeps k
  have hx₁ := k _ _ hx
  -- self.by = by
  show wpAny _ _ (execs _ _) _ _ _
  refine wpAny_execs_cons (plainObj_wpAny_Assign_Attribute ?_)
  refine ldC (v := v) hn (by first | rfl | with_unfolding_all rfl | kernel_rfl) (ldC (v := .ref x) hn (by first | rfl | with_unfolding_all rfl | kernel_rfl) ?_)
  refine set_plain X₁ (ox := excO C t0) (od := none) ⟨hx₁, rfl, rfl, trivial⟩ T.sa ?_
  refine exc_osa X₁ hx₁ hcl (show refsVE (.ref C :: bm) = true from hbm) rfl T.noN (fun h₃ tk₃ dx k₃ dn dne hx₃ hn₃ => ?_)
  show wpAny _ _ (execs _ _) _ _ _
  have z : s.heap.objs.size < h₁.objs.size := hn.lt
  exact wpAny_execs_nil (hq h₃ tk₃ dx ⟨fun b o hb e => k₃ b o hb (k b o e), hx₃, Nat.le_of_lt (Nat.lt_of_lt_of_le z dn), dne, hn₃⟩)
theorem low_made (T : ErrTxt K mg cn qn C fI) {v : Value} (X : K.In s.heap) (hlim : s.heap.NoLimit) (hroom : A.depth + 1 < recursionLimit)
    (hq : ∀ h' tk e d, OwnMade s.heap h' e C d v → R (.ok (.ret (.ref e))) { s with heap := h', toks := tk }) :
    codeAny (model prog w) A (.call (.ref C) ⟨[v], []⟩) R s := by
  obtain ⟨nm, q, N, bs, bm, sn, sub, ab, col, dd, k0, k1, k2, k3, k5, hC, hbm⟩ := T.cls
  obtain ⟨hp, g, dr, tk, os⟩ := s
  have k : ∀ b o, hp.get? b = some o → ((hp.push (kdv_tup [v])).push (excO C hp.objs.size)).get? b = some o := fun b o e => Heap.get?_push_of_some _ (Heap.get?_push_of_some _ e)
  have hget : ((hp.push (kdv_tup [v])).push (excO C hp.objs.size)).get? (hp.objs.size + 1) = some (excO C hp.objs.size) := by heap_get
  have hnx : K.lookup (hp.objs.size + 1) = none := by
    cases e : K.lookup (hp.objs.size + 1) with
    | none => rfl
    | some o =>
      have z : hp.get? (hp.objs.size + 1) = some o := X _ _ e
      exact absurd (Nat.lt_of_succ_lt (Heap.lt_size z)) (Nat.lt_irrefl _)
  refine call_own F.excBase_ValueError (fun X => refsVE_contains X bm hbm) (X _ _ hC) (looks_findIn X T.iC) (fun self => bind_fn X self T.tC) (one_size v) ?_
  refine low_init (s := ⟨(hp.push (kdv_tup [v])).push (excO C hp.objs.size), g, dr, tk, os⟩) T (X.keeps k) (hlim.keeps k) hget hnx ?_ fun h' tk' dx ⟨k', hx, dn, dne, hns⟩ => ?_
  · show A.depth + 1 < recursionLimit
    exact hroom
  · have old : ∀ b o, hp.get? b = some o → h'.get? b = some o := fun b o e => k' b o (Nat.ne_of_lt (Nat.lt_succ_of_lt (Heap.lt_size e))) (k b o e)
    have z : hp.objs.size + 1 + 1 ≤ dx := by
      first
        | (simpa only [Heap.size_push] using dn)
        | exact dn
        | (have q := dn; rw [Heap.size_push, Heap.size_push] at q; exact q)
    exact ⟨rfl, hq h' tk' (hp.objs.size + 1) dx ⟨old, Nat.le_succ _, ⟨_, _, hx, rfl, rfl, rfl, rfl⟩, Nat.le_trans (Nat.le_trans (Nat.le_succ _) (Nat.le_succ _)) z, dne, hns⟩⟩
end
end ErrX
end PySem
namespace L2
open PySem PySem.Spec PyProof.Rows
theorem relO_low {v : V} {v' : Value} (r : RelV v v') (f : Str) : RelO (List.lookup f [(("at" : Str), v)]) (if f = "at" then some v' else none) := by
  by_cases hw : f = "at"
  · subst hw
    rw [if_pos rfl]
    have q : List.lookup ("at" : Str) [(("at" : Str), v)] = some v := by simp [List.lookup]
    rw [q]
    exact r
  · rw [if_neg hw]
    have qw : (f == ("at" : Str)) = false := by simpa using hw
    have q2 : List.lookup f [(("at" : Str), v)] = none := by simp [List.lookup, qw]
    rw [q2]
    trivial
section
variable {X : Cx} {C fI : Addr} {cn qn : Str}
/-- Low(e) -/
def tMkLow (C : Addr) (ta : TA) : St → Hp → XK → Prop := fun σ H Q => ta σ H fun vs H1 => ∃ v, vs = [v] ∧ ∀ d, H1 d = none → Q (.ref C) (some d) (upd H1 d (.xd [(("at" : Str), v)]))
theorem pmk_low {a : Expr} {ta : TA} {p pos : Pos} {k : Nat} (T : PySem.ErrX.ErrTxt X.K X.mg cn qn C fI) (hr : Room k X.A) (ha : PA X [a] ta) (hg : Gl X cn) (hdb : (cn == ("__debug__" : Str)) = false := by decide)
    (he : starEach (a :: []) X.env = (false, eval a X.env) :: starEach [] X.env := by rfl) (hpl : (backTo pos (starEach [] X.env)).any (·.1) = false := by rfl) :
    PMk X (.Call (.Name cn p) [a] [] pos) (tMkLow C ta) := by
  intro pins s σ H Q I h
  refine wpAny_Call_Name_kw (ld_glob I hg T.gC ?_ hdb)
  refine PySem.W.callWith_K (h₀ := X.base) I.ok.mod.kin T.kC (thn (ha.run pos pins s σ H _ I h) fun us s1 hh => ?_) he hpl
  obtain ⟨vs, H1, I1, r1, v, ev, q1⟩ := hh
  subst ev
  refine ⟨I1.kIn, ?_⟩
  cases r1 with
  | cons rv rn =>
    rename_i v' us'
    cases rn
    show wpAny _ _ (call (.ref C) [v']) _ _ _
    have hlim := I1.nolimit
    obtain ⟨hp, g, dr, tk, os⟩ := s1
    refine wpAny_call (PySem.ErrX.low_made T I1.kIn hlim (by have := hr.dp; omega) fun h' tk' e d M => ?_)
    show MkP X pins σ Q (.ref e) ⟨h', g, dr, tk', os⟩
    obtain ⟨oe, fv, hoe, hc, hd, hdat, h1⟩ := M.obj
    have hns := M.ns
    obtain ⟨G', g1, g2⟩ := restrict h' fun b => decide (b ≠ e)
    have gk : ∀ b, b ≠ e → G'.get? b = h'.get? b := fun b hb => g1 b (decide_eq_true hb)
    have ge : G'.get? e = none := g2 e (by simp)
    have old : ∀ b o, hp.get? b = some o → G'.get? b = some o := fun b o q => (gk b (Nat.ne_of_lt (Nat.lt_of_lt_of_le (Heap.lt_size q) M.new))).trans (M.keep b o q)
    have ob : ObjOk X.prog X.w (upd H1 d (.xd [(("at" : Str), v)])) G' d (.xd [(("at" : Str), v)]) :=
      ⟨_, hns.at (fun o q => (gk d M.dne).trans q), fun f => relO_low rv f⟩
    have J : Inv X pins σ (upd H1 d (.xd [(("at" : Str), v)])) ⟨G', g, dr, tk', os⟩ := I1.laid (t' := tk') old M.dbig ob
    refine ⟨e, oe, fv, ⟨G', g, dr, tk', os⟩, _, .ref C, some d, rfl, J, fun b o q => ?_, ge, hoe, ⟨hc, hd⟩, hdat, h1, ?_, rfl, I1.bare, raises_own T.exC T.tyC, q1 d (I1.hok.fresh M.dbig)⟩
    · by_cases hb : b = e
      · have q' : G'.get? b = some o := q
        rw [hb, ge] at q'; cases q'
      · exact (gk b hb).symm.trans q
    · rw [upd_ne (Ne.symm M.dne)]
      exact I1.hok.fresh M.new
/-- raise Low(e) -/
def tRaiseLow (C : Addr) (W : WX) (ta : TA) : TS := fun _ σ H => tMkLow C ta σ H fun cls d H' => W cls d σ H'
theorem ps_raiseLow {a : Expr} {ta : TA} {W : WX} {p pos pos2 : Pos} {k : Nat} (hc : X.calm = true) (T : PySem.ErrX.ErrTxt X.K X.mg cn qn C fI) (hr : Room k X.A) (tk : Takes X W) (ha : PA X [a] ta) (hg : Gl X cn) (hdb : (cn == ("__debug__" : Str)) = false := by decide)
    (he : starEach (a :: []) X.env = (false, eval a X.env) :: starEach [] X.env := by rfl) (hpl : (backTo pos (starEach [] X.env)).any (·.1) = false := by rfl) :
    PS X (.Raise (some (.Call (.Name cn p) [a] [] pos)) none pos2) (tRaiseLow C W ta) := ps_raise hc tk (pmk_low T hr ha hg hdb he hpl)
/-- low.by, low the exception that the suite holds (at a; its class cls, its dict d) -/
def tByLow (C : Addr) (a : Addr) (cls : Value) (d : Option Addr) (te : TE) : TE := fun σ H Q => te σ H fun x H1 => x = .ref a ∧ cls = .ref C ∧ ∃ (dd : Addr) (v : V), d = some dd ∧ H1 dd = some (.xd [(("at" : Str), v)]) ∧ Q v H1
theorem pe_byLow {a : Addr} {oe : Obj} {cls : Value} {d : Option Addr} {pn : List (Addr × Obj)} {e : Expr} {te : TE} {pos : Pos} (T : PySem.ErrX.ErrTxt X.K X.mg cn qn C fI) (hz : Zc cls d oe) (hf : ∃ vs, oe.data = .fields vs) (he : PE (X.suite a ((a, oe) :: pn)) e te)
    (hb : attributeBase e "at" X.env (eval e X.env) = eval e X.env := by rfl) :
    PE (X.suite a ((a, oe) :: pn)) (.Attribute e "at" pos) (tByLow C a cls d te) := by
  refine ⟨fun pins s σ H Q I h => ?_⟩
  refine attr_of hb (thn (he.run pins s σ H _ I h) fun u s1 hh => ?_)
  obtain ⟨x, H1, I1, rx, ex, ec, dd, v, ed, ea, q⟩ := hh
  subst ex
  obtain rfl : u = Value.ref a := rx
  subst ec
  subst ed
  obtain ⟨ha, _⟩ := I1.pin (a, oe) (List.mem_append_left _ List.mem_cons_self)
  obtain ⟨vs, hd⟩ := hf
  have hx : ObjOk X.prog X.w H1 s1.heap dd (.xd [(("at" : Str), v)]) := I1.hok dd _ ea
  obtain ⟨mA, hns, hr⟩ := hx
  obtain ⟨od, ho, hl⟩ := lookIn_ns hns
  have l : List.lookup ("at" : Str) [(("at" : Str), v)] = some v := by simp [List.lookup]
  obtain ⟨u, hu, ru⟩ := RelO.some_of (v := v) (o := mA "at") (by rw [← l]; exact hr "at")
  have J : PySem.W.InstAt s1.heap a oe C (some od) := ⟨ha, hz.1, by unfold PySem.W.notCls; rw [hd] <;> rfl, by rw [hz.2]; exact ho⟩
  exact HandSPX.exc_get I1.kIn J T.ga T.gg T.exC (PySem.W.findObj_own T.hdC T.noN rfl (by rw [hl, hu])) (handed_of ru) ⟨v, H1, I1.tok _, ru, q⟩
end
end L2


set_option Elab.async false
set_option linter.all false
set_option maxRecDepth 100000
set_option maxHeartbeats 4000000
namespace Lk
open PySem L2
abbrev s_Machine___init : Stmt := inClass (top 13) 0
abbrev N_Machine___init : List Str := ["self", "commands", "steps", "state", "entry"]
abbrev P_Machine___init : List Str := ["self", "commands", "steps"]
theorem sc_Machine___init : FnScope N_Machine___init P_Machine___init (defScope s_Machine___init) := ⟨rfl, rfl, rfl, by decide +kernel, rfl, by decide +kernel, by decide +kernel⟩
section
variable {K : PySem.W.Frag} {j : Nat} {te : TE} {σ : St} {H1 : Hp} {D : Addr} {Qd : Hp → Prop}
theorem lcTT {a : Addr} {xs : List V} (S : Addr → Prop) (I : Hp → Prop) (f : Nat → V → Hp → Prop) (hD : H1 D = none) (hS : ¬ S D) (hn : xs.length ≤ 1000000) (hI : I H1) (mI : ∀ H o, I H → I (upd H D o))
    (mf : ∀ i y H H', KP (fun a => S a ∨ a = D) H H' → f i y H → f i y H') (ha : ∀ H, KP S H1 H → SqT K H a xs)
    (hs : ∀ i x H acc, xs[i]? = some x → I H → KP S H1 H → H D = some (.lst acc) → ∀ Q : VK, (∀ y H4, I H4 → KP S H H4 → f i y H4 → Q y H4) → te ((wipe σ [j]).set j (some x)) H Q)
    (hd : ∀ ys H', ys.length = xs.length → (∀ i y, ys[i]? = some y → f i y H') → H' D = some (.lst ys) → I H' → KP S H1 H' → Qd H') :
    ∃ W : Nat → Nat → Hp → Prop, (∃ m, W 0 m (upd H1 D (.lst []))) ∧ ∀ i m H, W i m H →
      ((Itt K a).stop i H ∧ Qd H) ∨ ((Itt K a).go i H ∧ ∃ Nx : Hp → Prop, (∀ H', Nx H' → ∃ m', m' < m ∧ W (i + 1) m' H') ∧ ∀ x H', (Itt K a).yld i H x H' → gName j x (wipe σ [j]) H' fun σ2 H2 => wipe σ2 [j] = wipe σ [j] ∧ tYes σ2 H2 fun b H3 =>
        if b = true then te σ2 H3 fun y H4 => ∃ acc, H4 D = some (.lst acc) ∧ acc.length < sizeLine ∧ Nx (upd H4 D (.lst (acc ++ [y]))) else Nx H3) := by
  refine lc_tup (xs := xs) (Lcp S I f H1 D) (Lcp.zero hD mI hI) (fun i H _ x => ha H x.2.1) (fun i x0 H hi x => ?_) (fun H x => ?_)
  · have hi' : i < xs.length := (List.getElem?_eq_some_iff.mp hi).1
    refine ⟨wipe1 _ _ _, iteT (B := Lcp S I f H1 D (i + 1) H) ?_⟩
    obtain ⟨acc, e⟩ : ∃ acc, H D = some (.lst acc) := by
      obtain ⟨_, _, ys, e, _⟩ := x
      exact ⟨ys, e⟩
    exact hs i x0 H acc hi x.1 x.2.1 e _ fun y H4 h1 h2 h3 => x.step hD hS mI mf (by omega) h1 h2 h3
  · obtain ⟨h1, h2, ys, e, hl, hf⟩ := x
    exact hd ys H hl hf e h1 h2
end
/-! ### a machine's making, as data -/
def badC : PyData → Bool
  | .int i => decide (i ≤ 0)
  | _ => true
def badAt (A n : Int) : List PyData → Nat → Option Nat
  | [], _ => none
  | e :: r, i => if isE A n e = true then badAt A n r (i + 1) else some i
/-- the number of the refusal, if the commands are right -/
def stepsRes (A : Int) (d : PyData) : Option Int :=
  if isS d = false ∨ itemsD d = [] then some 1 else (badAt A ((itemsD d).length : Int) (itemsD d) 0).map fun i => 2 + (i : Int)
def intD : PyData → Int
  | .int i => i
  | _ => 0
def rowD (e : PyData) : List Int := (itemsD e).map intD
theorem badAt_cons {A n : Int} {e : PyData} {r : List PyData} {i : Nat} : badAt A n (e :: r) i = if isE A n e = true then badAt A n r (i + 1) else some i := rfl
theorem badAt_none {A n : Int} : ∀ {ds : List PyData} {i : Nat}, badAt A n ds i = none → ∀ e ∈ ds, isE A n e = true
  | [], _, _, e, h => nomatch h
  | d :: ds, i, h, e, he => by
    unfold badAt at h
    by_cases hE : isE A n d = true
    · rw [if_pos hE] at h
      rcases List.mem_cons.mp he with z | z
      · rw [z]
        exact hE
      · exact badAt_none h e z
    · rw [if_neg hE] at h
      cases h
theorem drop_get {α : Type} : ∀ {xs : List α} {i : Nat} {x : α}, xs[i]? = some x → xs.drop i = x :: xs.drop (i + 1)
  | [], _, _, h => by simp at h
  | y :: xs, 0, x, h => by
    have e : y = x := Option.some.inj h
    rw [e]
    rfl
  | y :: xs, i + 1, x, h => drop_get (xs := xs) (i := i) h
theorem DvAll.ints {H : Hp} {n : Int} : ∀ {xs : List V} {ds : List PyData}, DvAll H xs ds → ds.all (isB n) = true → xs = (ds.map intD).map V.int
  | _, _, .nil, _ => rfl
  | _, _, .cons (d := d) h t, e => by
    rw [List.all_cons, Bool.and_eq_true] at e
    rw [DvAll.ints t e.2]
    cases h with
    | int i => rfl
    | non => cases e.1
    | bl b => cases e.1
    | str b => cases e.1
    | lst _ _ => cases e.1
    | tup _ _ => cases e.1
    | dct _ => cases e.1
theorem entry_read {H : Hp} {y : V} {e : PyData} {A n : Int} (h : Dv H y e) (hE : isE A n e = true) : ∃ (b : Addr) (zs : Unit), y = .ref b ∧ (H b = some (.lst ((rowD e).map V.int)) ∨ H b = some (.tup ((rowD e).map V.int))) := by
  unfold isE at hE
  rw [Bool.and_eq_true, Bool.and_eq_true] at hE
  obtain ⟨h1, _, h3⟩ := hE
  cases h with
  | @lst b xs ds hb hx => exact ⟨b, (), rfl, .inl (by rw [hb, hx.ints h3] <;> rfl)⟩
  | @tup b xs ds hb hx => exact ⟨b, (), rfl, .inr (by rw [hb, hx.ints h3] <;> rfl)⟩
  | non => cases h1
  | int _ => cases h1
  | bl b => cases h1
  | str b => cases h1
  | dct _ => cases h1
/-! ### machines in the heap -/
def fldM (A n : Int) (t : Addr) : List (Str × V) := putF "steps" (.ref t) (putF "states" (.int n) (putF "commands" (.int A) []))
/-- at m a machine of the class at C with A commands and these rows -/
def MachAt (C : Addr) (H : Hp) (m : Addr) (A : Int) (us : List (Addr × List Int)) : Prop :=
  ∃ dx t, H m = some (.ins C dx (fldM A (us.length : Int) t)) ∧ H t = some (.tup (us.map fun u => V.ref u.1)) ∧ ∀ u ∈ us, H u.1 = some (.tup (u.2.map V.int))
/-- what the top says of the class -/
structure TxC (K : PySem.W.Frag) (C : Addr) : Prop where
  cl : Cls K C
  n1 : NoAttr K C "commands"
  n2 : NoAttr K C "states"
  n3 : NoAttr K C "steps"
def spInit (CM CE : Addr) : Sp := fun vs H Q E => ∃ (m dx : Addr) (x y : V) (dc ds : PyData), vs = [.ref m, x, y] ∧ H m = some (.ins CM dx []) ∧ Dv H x dc ∧ Dv H y ds ∧ (itemsD ds).length ≤ 1000 ∧ (∀ e ∈ itemsD ds, (itemsD e).length ≤ 1000) ∧
  (badC dc = true → ∀ H' d, Same H H' → H' d = none → E (.ref CE) (some d) (upd H' d (.xd [(("at" : Str), .int 0)]))) ∧
  (badC dc = false → ∀ A, dc = .int A → match stepsRes A ds with
    | some k => ∀ H' d, Same H H' → H' d = none → E (.ref CE) (some d) (upd H' d (.xd [(("at" : Str), .int k)]))
    | none => ∀ H' us, KP (fun b => b = m) H H' → MachAt CM H' m A us → us.map (·.2) = (itemsD ds).map rowD → Q .non H')
section
variable {P : Program} {w : World} {K : PySem.W.Frag} {mg : Str → Option Value} {base : Heap}
theorem ok_init {f fi fn fb fs fr fe CM CE fCE : Addr} {fd fdi fdn fdb fds fdr fde : FuncData} (F : Fun K "__init__" "Machine.__init__" s_Machine___init f fd) (d_is_entry : Df K mg "_is_entry" s_is_entry fe fde P_is_entry) (d_is_sequence : Df K mg "is_sequence" s_is_sequence fs fds P_is_sequence) (d_are_below : Df K mg "are_below" s_are_below fr fdr P_are_below) (d_is_below : Df K mg "is_below" s_is_below fb fdb P_is_below) (d_is_number : Df K mg "is_number" s_is_number fn fdn P_is_number) (d_is_integer : Df K mg "is_integer" s_is_integer fi fdi P_is_integer)
    (T : Txt mg) (TC : TxC K CM) (TE : PySem.ErrX.ErrTxt K mg "InvalidMachine" "InvalidMachine.__init__" CE fCE) : FnOk P w K mg base (L2.CX P w) 7 f fd P_Machine___init (spInit CM CE) := by
  have G_is_sequence : FnOk P w K mg base CX0 1 fs fds P_is_sequence (spT1 isS) := ok_sequence d_is_sequence T
  have G_is_number : FnOk P w K mg base CX0 2 fn fdn P_is_number (spT1 isN) := ok_number d_is_number d_is_integer T
  have G_is_entry : FnOk P w K mg base CX0 5 fe fde P_is_entry spEntry := ok_entry d_is_entry d_is_sequence d_are_below d_is_below d_is_number d_is_integer T
  refine F.okX sc_Machine___init (fun vs H Q E h => ?_) (fun cdv Ar outer s H vs Q E hr h => ?_)
  · obtain ⟨m, dx, x, y, dc, ds, rfl, _⟩ := h
    rfl
  · obtain ⟨m, dx, x, y, dc, ds, rfl, hm, Dx, Dy, hz1, hz2, kB, kG⟩ := h
    cases id Dy with
    | @lst a xs ds' ha hx => 
      refine ⟨_, (pss_cons (ps_if (PW.pt (pw_or (pt_not (pt_val (pe_call G_is_number (hr.mono (by decide)) rfl d_is_number.g d_is_number.F.kp d_is_number.b .nil pass0 (pa_cons (pv 1) pa_nil)))) (pw_or1 (pt_cmpR op_eq (pv 1) pe_int (nomark _))))) (pss_one (ps_raiseLow rfl TE hr (takes_of rfl rfl rfl rfl) (pa_cons pe_int pa_nil) (by rfl))) pss_nil)
    (pss_cons (ps_if (PW.pt (pw_or (pt_not (pt_val (pe_call G_is_sequence (hr.mono (by decide)) rfl d_is_sequence.g d_is_sequence.F.kp d_is_sequence.b .nil pass0 (pa_cons (pv 2) pa_nil)))) (pw_or1 (pt_cmpR op_eq (pe_callB call_len_seq (by rfl) T.len PySem.boot_len (pa_cons (pv 2) pa_nil)) pe_int (nomark _))))) (pss_one (ps_raiseLow rfl TE hr (takes_of rfl rfl rfl rfl) (pa_cons pe_int pa_nil) (by rfl))) pss_nil)
    (pss_cons (ps_for (passes_of rfl) rfl (pi_enum (by rfl) T.enumerate (pa_cons (pv 2) pa_nil)) (pg_tup rfl (pgs_cons (pg_name (i := 3) sc_Machine___init.nd rfl (Or.inl rfl)) (pgs_cons (pg_name (i := 4) sc_Machine___init.nd rfl (Or.inl rfl)) pgs_nil)))
      (pss_one (ps_if (pt_not (pt_val (pe_call G_is_entry (hr.mono (by decide)) rfl d_is_entry.g d_is_entry.F.kp d_is_entry.b .nil pass0 (pa_cons (pv 4) (pa_cons (pv 1) (pa_cons (pe_callB call_len_seq (by rfl) T.len PySem.boot_len (pa_cons (pv 2) pa_nil)) pa_nil)))))) (pss_one (ps_raiseLow rfl TE hr (takes_of rfl rfl rfl rfl) (pa_cons (pe_op op_add pe_int (pv 3)) pa_nil) (by rfl))) pss_nil)))
    (pss_cons (ps_fld (pv 0) (pv 1) rfl)
    (pss_cons (ps_fld (pv 0) (pe_callB call_len_seq (by rfl) T.len PySem.boot_len (pa_cons (pv 2) pa_nil)) rfl)
    (pss_one (ps_fld (pv 0) (pe_tupleOf (by rfl) T.tuple (pe_lc (own := [("entry", 4)]) (g := gName 4) (tt := tYes) (te := tThen (tVar 4) (kTup K)) rfl sc_Machine___init.nd (pi_list (pv 2)) (blkOk_by (N := N_Machine___init) (sc := defScope s_Machine___init) (by decide +kernel)) (fun _ _ _ _ _ => (pg_name (i := 4) sc_Machine___init.nd rfl (Or.inl rfl))) (fun _ _ _ _ _ => pts_nil) (fun _ _ _ _ _ => (pe_tupleOf (by rfl) T.tuple (pv 4))))) rfl))))))), ?_⟩
      have hne : a ≠ m := fun e => by
        rw [e, hm] at ha
        cases ha
      refine ⟨_, rfl, x, dc, rfl, Dx, fun H1 S1 => ⟨isN dc, rfl, ?_⟩⟩
      have hlen : xs.length = ds'.length := hx.len
      -- the first test
      by_cases hb : badC dc = true
      · have kb := kB hb
        have hN : ∀ i, dc = .int i → i ≤ 0 := fun i e => by
          rw [e] at hb
          exact of_decide_eq_true hb
        cases Dx with
        | int i =>
          have i0 := hN i rfl
          show (if (!decide (0 ≤ i)) = true then _ else _)
          by_cases h0 : 0 ≤ i
          · have e0 : i = 0 := by omega
            rw [decide_eq_true h0]
            refine iteF ⟨_, rfl, rfl, _, rfl, ?_⟩
            rw [e0]
            refine iteT ⟨_, rfl, fun q hq => kb H1 q S1 hq⟩
          · rw [decide_eq_false h0]
            exact iteT (iteT ⟨_, rfl, fun q hq => kb H1 q S1 hq⟩)
        | non => exact iteT (iteT ⟨_, rfl, fun q hq => kb H1 q S1 hq⟩)
        | bl b => exact iteT (iteT ⟨_, rfl, fun q hq => kb H1 q S1 hq⟩)
        | str b => exact iteT (iteT ⟨_, rfl, fun q hq => kb H1 q S1 hq⟩)
        | lst _ _ => exact iteT (iteT ⟨_, rfl, fun q hq => kb H1 q S1 hq⟩)
        | tup _ _ => exact iteT (iteT ⟨_, rfl, fun q hq => kb H1 q S1 hq⟩)
        | dct _ => exact iteT (iteT ⟨_, rfl, fun q hq => kb H1 q S1 hq⟩)
      obtain ⟨A, rfl, A0⟩ : ∃ A : Int, dc = .int A ∧ 0 < A := by
        cases dc with
        | int i => exact ⟨i, rfl, by have : ¬ i ≤ 0 := fun q => hb (decide_eq_true q); omega⟩
        | none => exact absurd rfl hb
        | bool _ => exact absurd rfl hb
        | str _ => exact absurd rfl hb
        | list _ => exact absurd rfl hb
        | tuple _ => exact absurd rfl hb
        | dict _ => exact absurd rfl hb
      have kG' := kG (by simpa using hb) A rfl
      obtain rfl : x = V.int A := by cases Dx; rfl
      show (if (!decide (0 ≤ A)) = true then _ else _)
      rw [decide_eq_true (show 0 ≤ A by omega)]
      refine iteF ⟨_, rfl, rfl, _, rfl, ?_⟩
      rw [decide_eq_false (show ¬ V.int A = V.int 0 from fun e => by injection e with e; omega)]
      refine iteF ?_
      -- the second test
      refine ⟨_, rfl, .ref a, _, rfl, Dy.same S1, fun H2 S2 => ⟨true, rfl, iteF ⟨_, rfl, a, xs, rfl, .inl (SqL.of ((S1.trans S2) _ _ ha)), rfl, _, rfl, ?_⟩⟩⟩
      have S12 := S1.trans S2
      cases hds : ds' with
      | nil =>
        have hx0 : xs.length = 0 := by rw [hlen, hds]; rfl
        rw [hx0]
        refine iteT ⟨_, rfl, fun q hq => ?_⟩
        have e : stepsRes A (.list ds') = some 1 := by rw [hds] <;> rfl
        rw [e] at kG'
        exact kG' H2 q S12 hq
      | cons d0 dr =>
      have hpos : 0 < ds'.length := by rw [hds]; simp
      rw [decide_eq_false (show ¬ V.int ((xs.length : Nat) : Int) = V.int 0 from fun e => by injection e with e; omega)]
      refine iteF ?_
      have eR : stepsRes A (.list ds') = (badAt A (ds'.length : Int) ds' 0).map fun i => 2 + (i : Int) := by
        unfold stepsRes
        rw [if_neg (by rw [hds]; intro z; rcases z with z | z <;> cases z)]
        rfl
      rw [eR] at kG'
      refine ⟨_, rfl, a, xs, rfl, SqL.of (S12 _ _ ha), for_enumL (K := K) (a := a) (xs := xs) (fun i σ H3 => ∃ v3 v4 : Option V, σ = [some (.ref m), some (.int A), some (.ref a), v3, v4] ∧ Same H H3 ∧ badAt A (ds'.length : Int) ds' 0 = badAt A (ds'.length : Int) (ds'.drop i) i) ⟨none, none, rfl, S12, rfl⟩ (fun i σ H3 ⟨_, _, _, S, _⟩ => SqL.of (S _ _ ha)) ?_ ?_⟩
      · rintro i y σ H3 t hi ⟨v3, v4, rfl, S3, eb⟩ ht
        obtain ⟨e, he, De⟩ := hx.get hi
        have S4 : Same H (upd H3 t (HO.tup [V.int ((i : Nat) : Int), y])) := S3.trans (Same.new ht)
        refine ⟨t, _, rfl, SqT.of upd_same, rfl, _, _, rfl, _, _, rfl, rfl, ?_⟩
        refine ⟨_, rfl, _, rfl, _, rfl, a, xs, rfl, .inl (SqL.of (S4 _ _ ha)), y, e, A, _, rfl, De.same S4, Nat.le_trans (hz2 e (mem_of_get he)) (by decide), fun H5 S5 => ⟨isE A ((xs.length : Nat) : Int) e, rfl, ?_⟩⟩
        rw [drop_get he] at eb
        rw [hlen]
        rw [badAt_cons] at eb
        by_cases hE : isE A (ds'.length : Int) e = true
        · rw [if_pos hE] at eb
          rw [hE]
          exact iteF ⟨_, _, rfl, S4.trans S5, eb⟩
        · rw [if_neg hE] at eb
          rw [show isE A (ds'.length : Int) e = false by simpa using hE]
          refine iteT ⟨_, rfl, _, _, rfl, rfl, _, rfl, fun q hq => ?_⟩
          rw [eb] at kG'
          exact kG' H5 q (S4.trans S5) hq
      · rintro σ H3 ⟨v3, v4, rfl, S3, eb⟩
        rw [hlen, List.drop_length] at eb
        rw [show badAt A (ds'.length : Int) ds' 0 = none from eb] at kG'
        have okE : ∀ e ∈ ds', isE A (ds'.length : Int) e = true := badAt_none eb
        have hm3 : H3 m = some (.ins CM dx []) := S3 _ _ hm
        -- the fields
        refine ⟨_, rfl, _, rfl, m, CM, dx, [], rfl, hm3, TC.cl, TC.n1, (by show 0 < 1000; decide), ?_⟩
        have hkm : ∀ {o : HO}, KP (fun b => b = m) H (upd H3 m o) := (KP.same (S := fun b => b = m) S3).trans (kp_upd rfl)
        refine ⟨_, rfl, a, xs, rfl, .inl (SqL.of (hkm.get hne ha)), _, rfl, m, CM, dx, _, rfl, upd_same, TC.cl, TC.n2, (by show 1 < 1000; decide), ?_⟩
        have hkm2 : ∀ {o1 o2 : HO}, KP (fun b => b = m) H (upd (upd H3 m o1) m o2) := ((KP.same (S := fun b => b = m) S3).trans (kp_upd rfl)).trans (kp_upd rfl)
        refine ⟨_, rfl, a, rfl, ⟨_, SqL.of (hkm2.get hne ha)⟩, fun D hD => ?_⟩
        have nDm : D ≠ m := fun e => by
          rw [e, upd_same] at hD
          cases hD
        have hD0 : H D = none := hkm2.free nDm hD
        refine lcL (K := K) (xs := xs) (fun _ => False) (fun H' => True) (fun i y H' => ∃ u : Addr × List Int, y = V.ref u.1 ∧ u.1 ≠ D ∧ u.1 ≠ m ∧ H' u.1 = some (.tup (u.2.map V.int)) ∧ ∃ e, ds'[i]? = some e ∧ u.2 = rowD e) hD id (by rw [hlen]; exact Nat.le_trans hz1 (by decide)) trivial (fun _ _ _ => trivial)
          (fun i y H' H'' kk ⟨u, e1, e2, e3, e4, e5⟩ => ⟨u, e1, e2, e3, kk.get (fun z => z.elim id e2) e4, e5⟩) (fun H' kk => SqL.of (kk.get id (hkm2.get hne ha))) (fun i y H4 acc hi _ k4 hDa Q4 kQ => ?_) (fun ys H4 hl4 hf4 hD4 _ k4 => ?_)
        · obtain ⟨e, he, De⟩ := hx.get hi
          have hE := okE e (mem_of_get he)
          obtain ⟨b, zs, hyb, hb1⟩ := entry_read De hE
          have bm : b ≠ m := fun q => by
            rcases hb1 with h1 | h1 <;>
            · rw [q, hm] at h1
              cases h1
          have hb4 : ∀ {o : HO}, H b = some o → H4 b = some o := fun h => k4.get id (hkm2.get bm h)
          refine ⟨_, rfl, ?_⟩
          rw [hyb]
          rcases hb1 with h1 | h1
          · refine .inl ⟨b, _, rfl, SqL.of (hb4 h1), fun q hq => kQ _ _ trivial (KP.new hq) ⟨(q, rowD e), rfl, fun z => ?_, fun z => ?_, upd_same, e, he, rfl⟩⟩
            · have z' : q = D := z
              rw [z', hDa] at hq
              cases hq
            · have z' : q = m := z
              have hm4 : H4 m = some _ := k4.get id upd_same
              rw [z', hm4] at hq
              cases hq
          · refine .inr ⟨b, _, rfl, SqT.of (hb4 h1), kQ _ _ trivial (KP.refl _ _) ⟨(b, rowD e), rfl, fun z => ?_, bm, hb4 h1, e, he, rfl⟩⟩
            have z' : b = D := z
            rw [z', hD0] at h1
            cases h1
        · obtain ⟨us, rfl, hu⟩ := collect (g := fun u : Addr × List Int => V.ref u.1) hf4
          refine .inl ⟨D, _, rfl, SqL.of hD4, fun t ht => ?_⟩
          have hm4 : H4 m = some _ := k4.get id upd_same
          have ntm : t ≠ m := fun e => by
            rw [e, hm4] at ht
            cases ht
          refine ⟨_, rfl, m, CM, dx, _, rfl, by rw [upd_ne ntm.symm]; exact hm4, TC.cl, TC.n3, (by show 2 < 1000; decide), ?_⟩
          rw [List.length_map] at hl4
          have hmem : ∀ u ∈ us, u.1 ≠ m ∧ H4 u.1 = some (.tup (u.2.map V.int)) := fun u hu' => by
            obtain ⟨i, hi⟩ := List.getElem?_of_mem hu'
            obtain ⟨_, h2, h3, _⟩ := hu i u hi
            exact ⟨h2, h3⟩
          refine kG' _ us (((hkm2.trans (k4.weak fun _ z => z.elim)).trans (KP.new ht)).trans (kp_upd rfl)) ⟨dx, t, ?_, ?_, fun u hu' => ?_⟩ ?_
          · rw [upd_same, hl4]
            rfl
          · rw [upd_ne ntm, upd_same]
          · obtain ⟨h2, h3⟩ := hmem u hu'
            rw [upd_ne h2]
            exact nk h3 ht
          · refine List.ext_getElem? fun i => ?_
            rw [List.getElem?_map]
            cases hi : us[i]? with
            | none =>
              have q : us.length ≤ i := List.getElem?_eq_none_iff.mp hi
              have q2 : ((itemsD (.list ds')).map rowD)[i]? = none := List.getElem?_eq_none_iff.mpr (by rw [List.length_map]; show ds'.length ≤ i; omega)
              exact q2.symm
            | some u =>
              obtain ⟨_, _, _, e, he, hr'⟩ := hu i u hi
              have q2 : ((itemsD (.list ds')).map rowD)[i]? = some (rowD e) := by
                rw [List.getElem?_map]
                show (ds'[i]?).map rowD = _
                rw [he] <;> rfl
              rw [q2]
              show some u.2 = some (rowD e)
              rw [hr']
    | @tup a xs ds' ha hx => 
      refine ⟨_, (pss_cons (ps_if (PW.pt (pw_or (pt_not (pt_val (pe_call G_is_number (hr.mono (by decide)) rfl d_is_number.g d_is_number.F.kp d_is_number.b .nil pass0 (pa_cons (pv 1) pa_nil)))) (pw_or1 (pt_cmpR op_eq (pv 1) pe_int (nomark _))))) (pss_one (ps_raiseLow rfl TE hr (takes_of rfl rfl rfl rfl) (pa_cons pe_int pa_nil) (by rfl))) pss_nil)
    (pss_cons (ps_if (PW.pt (pw_or (pt_not (pt_val (pe_call G_is_sequence (hr.mono (by decide)) rfl d_is_sequence.g d_is_sequence.F.kp d_is_sequence.b .nil pass0 (pa_cons (pv 2) pa_nil)))) (pw_or1 (pt_cmpR op_eq (pe_callB call_len_seq (by rfl) T.len PySem.boot_len (pa_cons (pv 2) pa_nil)) pe_int (nomark _))))) (pss_one (ps_raiseLow rfl TE hr (takes_of rfl rfl rfl rfl) (pa_cons pe_int pa_nil) (by rfl))) pss_nil)
    (pss_cons (ps_for (passes_of rfl) rfl (pi_enumT (by rfl) T.enumerate (pa_cons (pv 2) pa_nil)) (pg_tup rfl (pgs_cons (pg_name (i := 3) sc_Machine___init.nd rfl (Or.inl rfl)) (pgs_cons (pg_name (i := 4) sc_Machine___init.nd rfl (Or.inl rfl)) pgs_nil)))
      (pss_one (ps_if (pt_not (pt_val (pe_call G_is_entry (hr.mono (by decide)) rfl d_is_entry.g d_is_entry.F.kp d_is_entry.b .nil pass0 (pa_cons (pv 4) (pa_cons (pv 1) (pa_cons (pe_callB call_len_seq (by rfl) T.len PySem.boot_len (pa_cons (pv 2) pa_nil)) pa_nil)))))) (pss_one (ps_raiseLow rfl TE hr (takes_of rfl rfl rfl rfl) (pa_cons (pe_op op_add pe_int (pv 3)) pa_nil) (by rfl))) pss_nil)))
    (pss_cons (ps_fld (pv 0) (pv 1) rfl)
    (pss_cons (ps_fld (pv 0) (pe_callB call_len_seq (by rfl) T.len PySem.boot_len (pa_cons (pv 2) pa_nil)) rfl)
    (pss_one (ps_fld (pv 0) (pe_tupleOf (by rfl) T.tuple (pe_lc (own := [("entry", 4)]) (g := gName 4) (tt := tYes) (te := tThen (tVar 4) (kTup K)) rfl sc_Machine___init.nd (pi_tup (pv 2)) (blkOk_by (N := N_Machine___init) (sc := defScope s_Machine___init) (by decide +kernel)) (fun _ _ _ _ _ => (pg_name (i := 4) sc_Machine___init.nd rfl (Or.inl rfl))) (fun _ _ _ _ _ => pts_nil) (fun _ _ _ _ _ => (pe_tupleOf (by rfl) T.tuple (pv 4))))) rfl))))))), ?_⟩
      have hne : a ≠ m := fun e => by
        rw [e, hm] at ha
        cases ha
      refine ⟨_, rfl, x, dc, rfl, Dx, fun H1 S1 => ⟨isN dc, rfl, ?_⟩⟩
      have hlen : xs.length = ds'.length := hx.len
      -- the first test
      by_cases hb : badC dc = true
      · have kb := kB hb
        have hN : ∀ i, dc = .int i → i ≤ 0 := fun i e => by
          rw [e] at hb
          exact of_decide_eq_true hb
        cases Dx with
        | int i =>
          have i0 := hN i rfl
          show (if (!decide (0 ≤ i)) = true then _ else _)
          by_cases h0 : 0 ≤ i
          · have e0 : i = 0 := by omega
            rw [decide_eq_true h0]
            refine iteF ⟨_, rfl, rfl, _, rfl, ?_⟩
            rw [e0]
            refine iteT ⟨_, rfl, fun q hq => kb H1 q S1 hq⟩
          · rw [decide_eq_false h0]
            exact iteT (iteT ⟨_, rfl, fun q hq => kb H1 q S1 hq⟩)
        | non => exact iteT (iteT ⟨_, rfl, fun q hq => kb H1 q S1 hq⟩)
        | bl b => exact iteT (iteT ⟨_, rfl, fun q hq => kb H1 q S1 hq⟩)
        | str b => exact iteT (iteT ⟨_, rfl, fun q hq => kb H1 q S1 hq⟩)
        | lst _ _ => exact iteT (iteT ⟨_, rfl, fun q hq => kb H1 q S1 hq⟩)
        | tup _ _ => exact iteT (iteT ⟨_, rfl, fun q hq => kb H1 q S1 hq⟩)
        | dct _ => exact iteT (iteT ⟨_, rfl, fun q hq => kb H1 q S1 hq⟩)
      obtain ⟨A, rfl, A0⟩ : ∃ A : Int, dc = .int A ∧ 0 < A := by
        cases dc with
        | int i => exact ⟨i, rfl, by have : ¬ i ≤ 0 := fun q => hb (decide_eq_true q); omega⟩
        | none => exact absurd rfl hb
        | bool _ => exact absurd rfl hb
        | str _ => exact absurd rfl hb
        | list _ => exact absurd rfl hb
        | tuple _ => exact absurd rfl hb
        | dict _ => exact absurd rfl hb
      have kG' := kG (by simpa using hb) A rfl
      obtain rfl : x = V.int A := by cases Dx; rfl
      show (if (!decide (0 ≤ A)) = true then _ else _)
      rw [decide_eq_true (show 0 ≤ A by omega)]
      refine iteF ⟨_, rfl, rfl, _, rfl, ?_⟩
      rw [decide_eq_false (show ¬ V.int A = V.int 0 from fun e => by injection e with e; omega)]
      refine iteF ?_
      -- the second test
      refine ⟨_, rfl, .ref a, _, rfl, Dy.same S1, fun H2 S2 => ⟨true, rfl, iteF ⟨_, rfl, a, xs, rfl, .inr (SqT.of ((S1.trans S2) _ _ ha)), rfl, _, rfl, ?_⟩⟩⟩
      have S12 := S1.trans S2
      cases hds : ds' with
      | nil =>
        have hx0 : xs.length = 0 := by rw [hlen, hds]; rfl
        rw [hx0]
        refine iteT ⟨_, rfl, fun q hq => ?_⟩
        have e : stepsRes A (.tuple ds') = some 1 := by rw [hds] <;> rfl
        rw [e] at kG'
        exact kG' H2 q S12 hq
      | cons d0 dr =>
      have hpos : 0 < ds'.length := by rw [hds]; simp
      rw [decide_eq_false (show ¬ V.int ((xs.length : Nat) : Int) = V.int 0 from fun e => by injection e with e; omega)]
      refine iteF ?_
      have eR : stepsRes A (.tuple ds') = (badAt A (ds'.length : Int) ds' 0).map fun i => 2 + (i : Int) := by
        unfold stepsRes
        rw [if_neg (by rw [hds]; intro z; rcases z with z | z <;> cases z)]
        rfl
      rw [eR] at kG'
      refine ⟨_, rfl, a, xs, rfl, SqT.of (S12 _ _ ha), for_enumT (K := K) (a := a) (xs := xs) (fun i σ H3 => ∃ v3 v4 : Option V, σ = [some (.ref m), some (.int A), some (.ref a), v3, v4] ∧ Same H H3 ∧ badAt A (ds'.length : Int) ds' 0 = badAt A (ds'.length : Int) (ds'.drop i) i) ⟨none, none, rfl, S12, rfl⟩ (fun i σ H3 ⟨_, _, _, S, _⟩ => SqT.of (S _ _ ha)) ?_ ?_⟩
      · rintro i y σ H3 t hi ⟨v3, v4, rfl, S3, eb⟩ ht
        obtain ⟨e, he, De⟩ := hx.get hi
        have S4 : Same H (upd H3 t (HO.tup [V.int ((i : Nat) : Int), y])) := S3.trans (Same.new ht)
        refine ⟨t, _, rfl, SqT.of upd_same, rfl, _, _, rfl, _, _, rfl, rfl, ?_⟩
        refine ⟨_, rfl, _, rfl, _, rfl, a, xs, rfl, .inr (SqT.of (S4 _ _ ha)), y, e, A, _, rfl, De.same S4, Nat.le_trans (hz2 e (mem_of_get he)) (by decide), fun H5 S5 => ⟨isE A ((xs.length : Nat) : Int) e, rfl, ?_⟩⟩
        rw [drop_get he] at eb
        rw [hlen]
        rw [badAt_cons] at eb
        by_cases hE : isE A (ds'.length : Int) e = true
        · rw [if_pos hE] at eb
          rw [hE]
          exact iteF ⟨_, _, rfl, S4.trans S5, eb⟩
        · rw [if_neg hE] at eb
          rw [show isE A (ds'.length : Int) e = false by simpa using hE]
          refine iteT ⟨_, rfl, _, _, rfl, rfl, _, rfl, fun q hq => ?_⟩
          rw [eb] at kG'
          exact kG' H5 q (S4.trans S5) hq
      · rintro σ H3 ⟨v3, v4, rfl, S3, eb⟩
        rw [hlen, List.drop_length] at eb
        rw [show badAt A (ds'.length : Int) ds' 0 = none from eb] at kG'
        have okE : ∀ e ∈ ds', isE A (ds'.length : Int) e = true := badAt_none eb
        have hm3 : H3 m = some (.ins CM dx []) := S3 _ _ hm
        -- the fields
        refine ⟨_, rfl, _, rfl, m, CM, dx, [], rfl, hm3, TC.cl, TC.n1, (by show 0 < 1000; decide), ?_⟩
        have hkm : ∀ {o : HO}, KP (fun b => b = m) H (upd H3 m o) := (KP.same (S := fun b => b = m) S3).trans (kp_upd rfl)
        refine ⟨_, rfl, a, xs, rfl, .inr (SqT.of (hkm.get hne ha)), _, rfl, m, CM, dx, _, rfl, upd_same, TC.cl, TC.n2, (by show 1 < 1000; decide), ?_⟩
        have hkm2 : ∀ {o1 o2 : HO}, KP (fun b => b = m) H (upd (upd H3 m o1) m o2) := ((KP.same (S := fun b => b = m) S3).trans (kp_upd rfl)).trans (kp_upd rfl)
        refine ⟨_, rfl, a, rfl, ⟨_, SqT.of (hkm2.get hne ha)⟩, fun D hD => ?_⟩
        have nDm : D ≠ m := fun e => by
          rw [e, upd_same] at hD
          cases hD
        have hD0 : H D = none := hkm2.free nDm hD
        refine lcTT (K := K) (xs := xs) (fun _ => False) (fun H' => True) (fun i y H' => ∃ u : Addr × List Int, y = V.ref u.1 ∧ u.1 ≠ D ∧ u.1 ≠ m ∧ H' u.1 = some (.tup (u.2.map V.int)) ∧ ∃ e, ds'[i]? = some e ∧ u.2 = rowD e) hD id (by rw [hlen]; exact Nat.le_trans hz1 (by decide)) trivial (fun _ _ _ => trivial)
          (fun i y H' H'' kk ⟨u, e1, e2, e3, e4, e5⟩ => ⟨u, e1, e2, e3, kk.get (fun z => z.elim id e2) e4, e5⟩) (fun H' kk => SqT.of (kk.get id (hkm2.get hne ha))) (fun i y H4 acc hi _ k4 hDa Q4 kQ => ?_) (fun ys H4 hl4 hf4 hD4 _ k4 => ?_)
        · obtain ⟨e, he, De⟩ := hx.get hi
          have hE := okE e (mem_of_get he)
          obtain ⟨b, zs, hyb, hb1⟩ := entry_read De hE
          have bm : b ≠ m := fun q => by
            rcases hb1 with h1 | h1 <;>
            · rw [q, hm] at h1
              cases h1
          have hb4 : ∀ {o : HO}, H b = some o → H4 b = some o := fun h => k4.get id (hkm2.get bm h)
          refine ⟨_, rfl, ?_⟩
          rw [hyb]
          rcases hb1 with h1 | h1
          · refine .inl ⟨b, _, rfl, SqL.of (hb4 h1), fun q hq => kQ _ _ trivial (KP.new hq) ⟨(q, rowD e), rfl, fun z => ?_, fun z => ?_, upd_same, e, he, rfl⟩⟩
            · have z' : q = D := z
              rw [z', hDa] at hq
              cases hq
            · have z' : q = m := z
              have hm4 : H4 m = some _ := k4.get id upd_same
              rw [z', hm4] at hq
              cases hq
          · refine .inr ⟨b, _, rfl, SqT.of (hb4 h1), kQ _ _ trivial (KP.refl _ _) ⟨(b, rowD e), rfl, fun z => ?_, bm, hb4 h1, e, he, rfl⟩⟩
            have z' : b = D := z
            rw [z', hD0] at h1
            cases h1
        · obtain ⟨us, rfl, hu⟩ := collect (g := fun u : Addr × List Int => V.ref u.1) hf4
          refine .inl ⟨D, _, rfl, SqL.of hD4, fun t ht => ?_⟩
          have hm4 : H4 m = some _ := k4.get id upd_same
          have ntm : t ≠ m := fun e => by
            rw [e, hm4] at ht
            cases ht
          refine ⟨_, rfl, m, CM, dx, _, rfl, by rw [upd_ne ntm.symm]; exact hm4, TC.cl, TC.n3, (by show 2 < 1000; decide), ?_⟩
          rw [List.length_map] at hl4
          have hmem : ∀ u ∈ us, u.1 ≠ m ∧ H4 u.1 = some (.tup (u.2.map V.int)) := fun u hu' => by
            obtain ⟨i, hi⟩ := List.getElem?_of_mem hu'
            obtain ⟨_, h2, h3, _⟩ := hu i u hi
            exact ⟨h2, h3⟩
          refine kG' _ us (((hkm2.trans (k4.weak fun _ z => z.elim)).trans (KP.new ht)).trans (kp_upd rfl)) ⟨dx, t, ?_, ?_, fun u hu' => ?_⟩ ?_
          · rw [upd_same, hl4]
            rfl
          · rw [upd_ne ntm, upd_same]
          · obtain ⟨h2, h3⟩ := hmem u hu'
            rw [upd_ne h2]
            exact nk h3 ht
          · refine List.ext_getElem? fun i => ?_
            rw [List.getElem?_map]
            cases hi : us[i]? with
            | none =>
              have q : us.length ≤ i := List.getElem?_eq_none_iff.mp hi
              have q2 : ((itemsD (.tuple ds')).map rowD)[i]? = none := List.getElem?_eq_none_iff.mpr (by rw [List.length_map]; show ds'.length ≤ i; omega)
              exact q2.symm
            | some u =>
              obtain ⟨_, _, _, e, he, hr'⟩ := hu i u hi
              have q2 : ((itemsD (.tuple ds')).map rowD)[i]? = some (rowD e) := by
                rw [List.getElem?_map]
                show (ds'[i]?).map rowD = _
                rw [he] <;> rfl
              rw [q2]
              show some u.2 = some (rowD e)
              rw [hr']
    | non => 
      refine ⟨_, (pss_cons (ps_if (PW.pt (pw_or (pt_not (pt_val (pe_call G_is_number (hr.mono (by decide)) rfl d_is_number.g d_is_number.F.kp d_is_number.b .nil pass0 (pa_cons (pv 1) pa_nil)))) (pw_or1 (pt_cmpR op_eq (pv 1) pe_int (nomark _))))) (pss_one (ps_raiseLow rfl TE hr (takes_of rfl rfl rfl rfl) (pa_cons pe_int pa_nil) (by rfl))) pss_nil)
    (pss_cons (ps_if (PW.pt (pw_or (pt_not (pt_val (pe_call G_is_sequence (hr.mono (by decide)) rfl d_is_sequence.g d_is_sequence.F.kp d_is_sequence.b .nil pass0 (pa_cons (pv 2) pa_nil)))) (pw_or1 (pt_cmpR op_eq (pe_callB call_len_seq (by rfl) T.len PySem.boot_len (pa_cons (pv 2) pa_nil)) pe_int (nomark _))))) (pss_one (ps_raiseLow rfl TE hr (takes_of rfl rfl rfl rfl) (pa_cons pe_int pa_nil) (by rfl))) pss_nil)
    (pss_cons (ps_for (passes_of rfl) rfl (pi_enum (by rfl) T.enumerate (pa_cons (pv 2) pa_nil)) (pg_tup rfl (pgs_cons (pg_name (i := 3) sc_Machine___init.nd rfl (Or.inl rfl)) (pgs_cons (pg_name (i := 4) sc_Machine___init.nd rfl (Or.inl rfl)) pgs_nil)))
      (pss_one (ps_if (pt_not (pt_val (pe_call G_is_entry (hr.mono (by decide)) rfl d_is_entry.g d_is_entry.F.kp d_is_entry.b .nil pass0 (pa_cons (pv 4) (pa_cons (pv 1) (pa_cons (pe_callB call_len_seq (by rfl) T.len PySem.boot_len (pa_cons (pv 2) pa_nil)) pa_nil)))))) (pss_one (ps_raiseLow rfl TE hr (takes_of rfl rfl rfl rfl) (pa_cons (pe_op op_add pe_int (pv 3)) pa_nil) (by rfl))) pss_nil)))
    (pss_cons (ps_fld (pv 0) (pv 1) rfl)
    (pss_cons (ps_fld (pv 0) (pe_callB call_len_seq (by rfl) T.len PySem.boot_len (pa_cons (pv 2) pa_nil)) rfl)
    (pss_one (ps_fld (pv 0) (pe_tupleOf (by rfl) T.tuple (pe_lc (own := [("entry", 4)]) (g := gName 4) (tt := tYes) (te := tThen (tVar 4) (kTup K)) rfl sc_Machine___init.nd (pi_list (pv 2)) (blkOk_by (N := N_Machine___init) (sc := defScope s_Machine___init) (by decide +kernel)) (fun _ _ _ _ _ => (pg_name (i := 4) sc_Machine___init.nd rfl (Or.inl rfl))) (fun _ _ _ _ _ => pts_nil) (fun _ _ _ _ _ => (pe_tupleOf (by rfl) T.tuple (pv 4))))) rfl))))))), ?_⟩
      refine ⟨_, rfl, x, dc, rfl, Dx, fun H1 S1 => ⟨isN dc, rfl, ?_⟩⟩
      -- the first test
      by_cases hb : badC dc = true
      · have kb := kB hb
        have hN : ∀ i, dc = .int i → i ≤ 0 := fun i e => by
          rw [e] at hb
          exact of_decide_eq_true hb
        cases Dx with
        | int i =>
          have i0 := hN i rfl
          show (if (!decide (0 ≤ i)) = true then _ else _)
          by_cases h0 : 0 ≤ i
          · have e0 : i = 0 := by omega
            rw [decide_eq_true h0]
            refine iteF ⟨_, rfl, rfl, _, rfl, ?_⟩
            rw [e0]
            refine iteT ⟨_, rfl, fun q hq => kb H1 q S1 hq⟩
          · rw [decide_eq_false h0]
            exact iteT (iteT ⟨_, rfl, fun q hq => kb H1 q S1 hq⟩)
        | non => exact iteT (iteT ⟨_, rfl, fun q hq => kb H1 q S1 hq⟩)
        | bl b => exact iteT (iteT ⟨_, rfl, fun q hq => kb H1 q S1 hq⟩)
        | str b => exact iteT (iteT ⟨_, rfl, fun q hq => kb H1 q S1 hq⟩)
        | lst _ _ => exact iteT (iteT ⟨_, rfl, fun q hq => kb H1 q S1 hq⟩)
        | tup _ _ => exact iteT (iteT ⟨_, rfl, fun q hq => kb H1 q S1 hq⟩)
        | dct _ => exact iteT (iteT ⟨_, rfl, fun q hq => kb H1 q S1 hq⟩)
      obtain ⟨A, rfl, A0⟩ : ∃ A : Int, dc = .int A ∧ 0 < A := by
        cases dc with
        | int i => exact ⟨i, rfl, by have : ¬ i ≤ 0 := fun q => hb (decide_eq_true q); omega⟩
        | none => exact absurd rfl hb
        | bool _ => exact absurd rfl hb
        | str _ => exact absurd rfl hb
        | list _ => exact absurd rfl hb
        | tuple _ => exact absurd rfl hb
        | dict _ => exact absurd rfl hb
      have kG' := kG (by simpa using hb) A rfl
      obtain rfl : x = V.int A := by cases Dx; rfl
      show (if (!decide (0 ≤ A)) = true then _ else _)
      rw [decide_eq_true (show 0 ≤ A by omega)]
      refine iteF ⟨_, rfl, rfl, _, rfl, ?_⟩
      rw [decide_eq_false (show ¬ V.int A = V.int 0 from fun e => by injection e with e; omega)]
      refine iteF ?_
      refine ⟨_, rfl, _, _, rfl, Dy.same S1, fun H2 S2 => ⟨false, rfl, iteT (iteT ⟨_, rfl, fun q hq => ?_⟩)⟩⟩
      have e : stepsRes A .none = some 1 := rfl
      rw [e] at kG'
      exact kG' H2 q (S1.trans S2) hq
    | bl b => 
      refine ⟨_, (pss_cons (ps_if (PW.pt (pw_or (pt_not (pt_val (pe_call G_is_number (hr.mono (by decide)) rfl d_is_number.g d_is_number.F.kp d_is_number.b .nil pass0 (pa_cons (pv 1) pa_nil)))) (pw_or1 (pt_cmpR op_eq (pv 1) pe_int (nomark _))))) (pss_one (ps_raiseLow rfl TE hr (takes_of rfl rfl rfl rfl) (pa_cons pe_int pa_nil) (by rfl))) pss_nil)
    (pss_cons (ps_if (PW.pt (pw_or (pt_not (pt_val (pe_call G_is_sequence (hr.mono (by decide)) rfl d_is_sequence.g d_is_sequence.F.kp d_is_sequence.b .nil pass0 (pa_cons (pv 2) pa_nil)))) (pw_or1 (pt_cmpR op_eq (pe_callB call_len_seq (by rfl) T.len PySem.boot_len (pa_cons (pv 2) pa_nil)) pe_int (nomark _))))) (pss_one (ps_raiseLow rfl TE hr (takes_of rfl rfl rfl rfl) (pa_cons pe_int pa_nil) (by rfl))) pss_nil)
    (pss_cons (ps_for (passes_of rfl) rfl (pi_enum (by rfl) T.enumerate (pa_cons (pv 2) pa_nil)) (pg_tup rfl (pgs_cons (pg_name (i := 3) sc_Machine___init.nd rfl (Or.inl rfl)) (pgs_cons (pg_name (i := 4) sc_Machine___init.nd rfl (Or.inl rfl)) pgs_nil)))
      (pss_one (ps_if (pt_not (pt_val (pe_call G_is_entry (hr.mono (by decide)) rfl d_is_entry.g d_is_entry.F.kp d_is_entry.b .nil pass0 (pa_cons (pv 4) (pa_cons (pv 1) (pa_cons (pe_callB call_len_seq (by rfl) T.len PySem.boot_len (pa_cons (pv 2) pa_nil)) pa_nil)))))) (pss_one (ps_raiseLow rfl TE hr (takes_of rfl rfl rfl rfl) (pa_cons (pe_op op_add pe_int (pv 3)) pa_nil) (by rfl))) pss_nil)))
    (pss_cons (ps_fld (pv 0) (pv 1) rfl)
    (pss_cons (ps_fld (pv 0) (pe_callB call_len_seq (by rfl) T.len PySem.boot_len (pa_cons (pv 2) pa_nil)) rfl)
    (pss_one (ps_fld (pv 0) (pe_tupleOf (by rfl) T.tuple (pe_lc (own := [("entry", 4)]) (g := gName 4) (tt := tYes) (te := tThen (tVar 4) (kTup K)) rfl sc_Machine___init.nd (pi_list (pv 2)) (blkOk_by (N := N_Machine___init) (sc := defScope s_Machine___init) (by decide +kernel)) (fun _ _ _ _ _ => (pg_name (i := 4) sc_Machine___init.nd rfl (Or.inl rfl))) (fun _ _ _ _ _ => pts_nil) (fun _ _ _ _ _ => (pe_tupleOf (by rfl) T.tuple (pv 4))))) rfl))))))), ?_⟩
      refine ⟨_, rfl, x, dc, rfl, Dx, fun H1 S1 => ⟨isN dc, rfl, ?_⟩⟩
      -- the first test
      by_cases hb : badC dc = true
      · have kb := kB hb
        have hN : ∀ i, dc = .int i → i ≤ 0 := fun i e => by
          rw [e] at hb
          exact of_decide_eq_true hb
        cases Dx with
        | int i =>
          have i0 := hN i rfl
          show (if (!decide (0 ≤ i)) = true then _ else _)
          by_cases h0 : 0 ≤ i
          · have e0 : i = 0 := by omega
            rw [decide_eq_true h0]
            refine iteF ⟨_, rfl, rfl, _, rfl, ?_⟩
            rw [e0]
            refine iteT ⟨_, rfl, fun q hq => kb H1 q S1 hq⟩
          · rw [decide_eq_false h0]
            exact iteT (iteT ⟨_, rfl, fun q hq => kb H1 q S1 hq⟩)
        | non => exact iteT (iteT ⟨_, rfl, fun q hq => kb H1 q S1 hq⟩)
        | bl b => exact iteT (iteT ⟨_, rfl, fun q hq => kb H1 q S1 hq⟩)
        | str b => exact iteT (iteT ⟨_, rfl, fun q hq => kb H1 q S1 hq⟩)
        | lst _ _ => exact iteT (iteT ⟨_, rfl, fun q hq => kb H1 q S1 hq⟩)
        | tup _ _ => exact iteT (iteT ⟨_, rfl, fun q hq => kb H1 q S1 hq⟩)
        | dct _ => exact iteT (iteT ⟨_, rfl, fun q hq => kb H1 q S1 hq⟩)
      obtain ⟨A, rfl, A0⟩ : ∃ A : Int, dc = .int A ∧ 0 < A := by
        cases dc with
        | int i => exact ⟨i, rfl, by have : ¬ i ≤ 0 := fun q => hb (decide_eq_true q); omega⟩
        | none => exact absurd rfl hb
        | bool _ => exact absurd rfl hb
        | str _ => exact absurd rfl hb
        | list _ => exact absurd rfl hb
        | tuple _ => exact absurd rfl hb
        | dict _ => exact absurd rfl hb
      have kG' := kG (by simpa using hb) A rfl
      obtain rfl : x = V.int A := by cases Dx; rfl
      show (if (!decide (0 ≤ A)) = true then _ else _)
      rw [decide_eq_true (show 0 ≤ A by omega)]
      refine iteF ⟨_, rfl, rfl, _, rfl, ?_⟩
      rw [decide_eq_false (show ¬ V.int A = V.int 0 from fun e => by injection e with e; omega)]
      refine iteF ?_
      refine ⟨_, rfl, _, _, rfl, Dy.same S1, fun H2 S2 => ⟨false, rfl, iteT (iteT ⟨_, rfl, fun q hq => ?_⟩)⟩⟩
      have e : stepsRes A (.bool b) = some 1 := rfl
      rw [e] at kG'
      exact kG' H2 q (S1.trans S2) hq
    | int i0 => 
      refine ⟨_, (pss_cons (ps_if (PW.pt (pw_or (pt_not (pt_val (pe_call G_is_number (hr.mono (by decide)) rfl d_is_number.g d_is_number.F.kp d_is_number.b .nil pass0 (pa_cons (pv 1) pa_nil)))) (pw_or1 (pt_cmpR op_eq (pv 1) pe_int (nomark _))))) (pss_one (ps_raiseLow rfl TE hr (takes_of rfl rfl rfl rfl) (pa_cons pe_int pa_nil) (by rfl))) pss_nil)
    (pss_cons (ps_if (PW.pt (pw_or (pt_not (pt_val (pe_call G_is_sequence (hr.mono (by decide)) rfl d_is_sequence.g d_is_sequence.F.kp d_is_sequence.b .nil pass0 (pa_cons (pv 2) pa_nil)))) (pw_or1 (pt_cmpR op_eq (pe_callB call_len_seq (by rfl) T.len PySem.boot_len (pa_cons (pv 2) pa_nil)) pe_int (nomark _))))) (pss_one (ps_raiseLow rfl TE hr (takes_of rfl rfl rfl rfl) (pa_cons pe_int pa_nil) (by rfl))) pss_nil)
    (pss_cons (ps_for (passes_of rfl) rfl (pi_enum (by rfl) T.enumerate (pa_cons (pv 2) pa_nil)) (pg_tup rfl (pgs_cons (pg_name (i := 3) sc_Machine___init.nd rfl (Or.inl rfl)) (pgs_cons (pg_name (i := 4) sc_Machine___init.nd rfl (Or.inl rfl)) pgs_nil)))
      (pss_one (ps_if (pt_not (pt_val (pe_call G_is_entry (hr.mono (by decide)) rfl d_is_entry.g d_is_entry.F.kp d_is_entry.b .nil pass0 (pa_cons (pv 4) (pa_cons (pv 1) (pa_cons (pe_callB call_len_seq (by rfl) T.len PySem.boot_len (pa_cons (pv 2) pa_nil)) pa_nil)))))) (pss_one (ps_raiseLow rfl TE hr (takes_of rfl rfl rfl rfl) (pa_cons (pe_op op_add pe_int (pv 3)) pa_nil) (by rfl))) pss_nil)))
    (pss_cons (ps_fld (pv 0) (pv 1) rfl)
    (pss_cons (ps_fld (pv 0) (pe_callB call_len_seq (by rfl) T.len PySem.boot_len (pa_cons (pv 2) pa_nil)) rfl)
    (pss_one (ps_fld (pv 0) (pe_tupleOf (by rfl) T.tuple (pe_lc (own := [("entry", 4)]) (g := gName 4) (tt := tYes) (te := tThen (tVar 4) (kTup K)) rfl sc_Machine___init.nd (pi_list (pv 2)) (blkOk_by (N := N_Machine___init) (sc := defScope s_Machine___init) (by decide +kernel)) (fun _ _ _ _ _ => (pg_name (i := 4) sc_Machine___init.nd rfl (Or.inl rfl))) (fun _ _ _ _ _ => pts_nil) (fun _ _ _ _ _ => (pe_tupleOf (by rfl) T.tuple (pv 4))))) rfl))))))), ?_⟩
      refine ⟨_, rfl, x, dc, rfl, Dx, fun H1 S1 => ⟨isN dc, rfl, ?_⟩⟩
      -- the first test
      by_cases hb : badC dc = true
      · have kb := kB hb
        have hN : ∀ i, dc = .int i → i ≤ 0 := fun i e => by
          rw [e] at hb
          exact of_decide_eq_true hb
        cases Dx with
        | int i =>
          have i0 := hN i rfl
          show (if (!decide (0 ≤ i)) = true then _ else _)
          by_cases h0 : 0 ≤ i
          · have e0 : i = 0 := by omega
            rw [decide_eq_true h0]
            refine iteF ⟨_, rfl, rfl, _, rfl, ?_⟩
            rw [e0]
            refine iteT ⟨_, rfl, fun q hq => kb H1 q S1 hq⟩
          · rw [decide_eq_false h0]
            exact iteT (iteT ⟨_, rfl, fun q hq => kb H1 q S1 hq⟩)
        | non => exact iteT (iteT ⟨_, rfl, fun q hq => kb H1 q S1 hq⟩)
        | bl b => exact iteT (iteT ⟨_, rfl, fun q hq => kb H1 q S1 hq⟩)
        | str b => exact iteT (iteT ⟨_, rfl, fun q hq => kb H1 q S1 hq⟩)
        | lst _ _ => exact iteT (iteT ⟨_, rfl, fun q hq => kb H1 q S1 hq⟩)
        | tup _ _ => exact iteT (iteT ⟨_, rfl, fun q hq => kb H1 q S1 hq⟩)
        | dct _ => exact iteT (iteT ⟨_, rfl, fun q hq => kb H1 q S1 hq⟩)
      obtain ⟨A, rfl, A0⟩ : ∃ A : Int, dc = .int A ∧ 0 < A := by
        cases dc with
        | int i => exact ⟨i, rfl, by have : ¬ i ≤ 0 := fun q => hb (decide_eq_true q); omega⟩
        | none => exact absurd rfl hb
        | bool _ => exact absurd rfl hb
        | str _ => exact absurd rfl hb
        | list _ => exact absurd rfl hb
        | tuple _ => exact absurd rfl hb
        | dict _ => exact absurd rfl hb
      have kG' := kG (by simpa using hb) A rfl
      obtain rfl : x = V.int A := by cases Dx; rfl
      show (if (!decide (0 ≤ A)) = true then _ else _)
      rw [decide_eq_true (show 0 ≤ A by omega)]
      refine iteF ⟨_, rfl, rfl, _, rfl, ?_⟩
      rw [decide_eq_false (show ¬ V.int A = V.int 0 from fun e => by injection e with e; omega)]
      refine iteF ?_
      refine ⟨_, rfl, _, _, rfl, Dy.same S1, fun H2 S2 => ⟨false, rfl, iteT (iteT ⟨_, rfl, fun q hq => ?_⟩)⟩⟩
      have e : stepsRes A (.int i0) = some 1 := rfl
      rw [e] at kG'
      exact kG' H2 q (S1.trans S2) hq
    | str z => 
      refine ⟨_, (pss_cons (ps_if (PW.pt (pw_or (pt_not (pt_val (pe_call G_is_number (hr.mono (by decide)) rfl d_is_number.g d_is_number.F.kp d_is_number.b .nil pass0 (pa_cons (pv 1) pa_nil)))) (pw_or1 (pt_cmpR op_eq (pv 1) pe_int (nomark _))))) (pss_one (ps_raiseLow rfl TE hr (takes_of rfl rfl rfl rfl) (pa_cons pe_int pa_nil) (by rfl))) pss_nil)
    (pss_cons (ps_if (PW.pt (pw_or (pt_not (pt_val (pe_call G_is_sequence (hr.mono (by decide)) rfl d_is_sequence.g d_is_sequence.F.kp d_is_sequence.b .nil pass0 (pa_cons (pv 2) pa_nil)))) (pw_or1 (pt_cmpR op_eq (pe_callB call_len_seq (by rfl) T.len PySem.boot_len (pa_cons (pv 2) pa_nil)) pe_int (nomark _))))) (pss_one (ps_raiseLow rfl TE hr (takes_of rfl rfl rfl rfl) (pa_cons pe_int pa_nil) (by rfl))) pss_nil)
    (pss_cons (ps_for (passes_of rfl) rfl (pi_enum (by rfl) T.enumerate (pa_cons (pv 2) pa_nil)) (pg_tup rfl (pgs_cons (pg_name (i := 3) sc_Machine___init.nd rfl (Or.inl rfl)) (pgs_cons (pg_name (i := 4) sc_Machine___init.nd rfl (Or.inl rfl)) pgs_nil)))
      (pss_one (ps_if (pt_not (pt_val (pe_call G_is_entry (hr.mono (by decide)) rfl d_is_entry.g d_is_entry.F.kp d_is_entry.b .nil pass0 (pa_cons (pv 4) (pa_cons (pv 1) (pa_cons (pe_callB call_len_seq (by rfl) T.len PySem.boot_len (pa_cons (pv 2) pa_nil)) pa_nil)))))) (pss_one (ps_raiseLow rfl TE hr (takes_of rfl rfl rfl rfl) (pa_cons (pe_op op_add pe_int (pv 3)) pa_nil) (by rfl))) pss_nil)))
    (pss_cons (ps_fld (pv 0) (pv 1) rfl)
    (pss_cons (ps_fld (pv 0) (pe_callB call_len_seq (by rfl) T.len PySem.boot_len (pa_cons (pv 2) pa_nil)) rfl)
    (pss_one (ps_fld (pv 0) (pe_tupleOf (by rfl) T.tuple (pe_lc (own := [("entry", 4)]) (g := gName 4) (tt := tYes) (te := tThen (tVar 4) (kTup K)) rfl sc_Machine___init.nd (pi_list (pv 2)) (blkOk_by (N := N_Machine___init) (sc := defScope s_Machine___init) (by decide +kernel)) (fun _ _ _ _ _ => (pg_name (i := 4) sc_Machine___init.nd rfl (Or.inl rfl))) (fun _ _ _ _ _ => pts_nil) (fun _ _ _ _ _ => (pe_tupleOf (by rfl) T.tuple (pv 4))))) rfl))))))), ?_⟩
      refine ⟨_, rfl, x, dc, rfl, Dx, fun H1 S1 => ⟨isN dc, rfl, ?_⟩⟩
      -- the first test
      by_cases hb : badC dc = true
      · have kb := kB hb
        have hN : ∀ i, dc = .int i → i ≤ 0 := fun i e => by
          rw [e] at hb
          exact of_decide_eq_true hb
        cases Dx with
        | int i =>
          have i0 := hN i rfl
          show (if (!decide (0 ≤ i)) = true then _ else _)
          by_cases h0 : 0 ≤ i
          · have e0 : i = 0 := by omega
            rw [decide_eq_true h0]
            refine iteF ⟨_, rfl, rfl, _, rfl, ?_⟩
            rw [e0]
            refine iteT ⟨_, rfl, fun q hq => kb H1 q S1 hq⟩
          · rw [decide_eq_false h0]
            exact iteT (iteT ⟨_, rfl, fun q hq => kb H1 q S1 hq⟩)
        | non => exact iteT (iteT ⟨_, rfl, fun q hq => kb H1 q S1 hq⟩)
        | bl b => exact iteT (iteT ⟨_, rfl, fun q hq => kb H1 q S1 hq⟩)
        | str b => exact iteT (iteT ⟨_, rfl, fun q hq => kb H1 q S1 hq⟩)
        | lst _ _ => exact iteT (iteT ⟨_, rfl, fun q hq => kb H1 q S1 hq⟩)
        | tup _ _ => exact iteT (iteT ⟨_, rfl, fun q hq => kb H1 q S1 hq⟩)
        | dct _ => exact iteT (iteT ⟨_, rfl, fun q hq => kb H1 q S1 hq⟩)
      obtain ⟨A, rfl, A0⟩ : ∃ A : Int, dc = .int A ∧ 0 < A := by
        cases dc with
        | int i => exact ⟨i, rfl, by have : ¬ i ≤ 0 := fun q => hb (decide_eq_true q); omega⟩
        | none => exact absurd rfl hb
        | bool _ => exact absurd rfl hb
        | str _ => exact absurd rfl hb
        | list _ => exact absurd rfl hb
        | tuple _ => exact absurd rfl hb
        | dict _ => exact absurd rfl hb
      have kG' := kG (by simpa using hb) A rfl
      obtain rfl : x = V.int A := by cases Dx; rfl
      show (if (!decide (0 ≤ A)) = true then _ else _)
      rw [decide_eq_true (show 0 ≤ A by omega)]
      refine iteF ⟨_, rfl, rfl, _, rfl, ?_⟩
      rw [decide_eq_false (show ¬ V.int A = V.int 0 from fun e => by injection e with e; omega)]
      refine iteF ?_
      refine ⟨_, rfl, _, _, rfl, Dy.same S1, fun H2 S2 => ⟨false, rfl, iteT (iteT ⟨_, rfl, fun q hq => ?_⟩)⟩⟩
      have e : stepsRes A (.str z) = some 1 := rfl
      rw [e] at kG'
      exact kG' H2 q (S1.trans S2) hq
    | dct _ => 
      refine ⟨_, (pss_cons (ps_if (PW.pt (pw_or (pt_not (pt_val (pe_call G_is_number (hr.mono (by decide)) rfl d_is_number.g d_is_number.F.kp d_is_number.b .nil pass0 (pa_cons (pv 1) pa_nil)))) (pw_or1 (pt_cmpR op_eq (pv 1) pe_int (nomark _))))) (pss_one (ps_raiseLow rfl TE hr (takes_of rfl rfl rfl rfl) (pa_cons pe_int pa_nil) (by rfl))) pss_nil)
    (pss_cons (ps_if (PW.pt (pw_or (pt_not (pt_val (pe_call G_is_sequence (hr.mono (by decide)) rfl d_is_sequence.g d_is_sequence.F.kp d_is_sequence.b .nil pass0 (pa_cons (pv 2) pa_nil)))) (pw_or1 (pt_cmpR op_eq (pe_callB call_len_seq (by rfl) T.len PySem.boot_len (pa_cons (pv 2) pa_nil)) pe_int (nomark _))))) (pss_one (ps_raiseLow rfl TE hr (takes_of rfl rfl rfl rfl) (pa_cons pe_int pa_nil) (by rfl))) pss_nil)
    (pss_cons (ps_for (passes_of rfl) rfl (pi_enum (by rfl) T.enumerate (pa_cons (pv 2) pa_nil)) (pg_tup rfl (pgs_cons (pg_name (i := 3) sc_Machine___init.nd rfl (Or.inl rfl)) (pgs_cons (pg_name (i := 4) sc_Machine___init.nd rfl (Or.inl rfl)) pgs_nil)))
      (pss_one (ps_if (pt_not (pt_val (pe_call G_is_entry (hr.mono (by decide)) rfl d_is_entry.g d_is_entry.F.kp d_is_entry.b .nil pass0 (pa_cons (pv 4) (pa_cons (pv 1) (pa_cons (pe_callB call_len_seq (by rfl) T.len PySem.boot_len (pa_cons (pv 2) pa_nil)) pa_nil)))))) (pss_one (ps_raiseLow rfl TE hr (takes_of rfl rfl rfl rfl) (pa_cons (pe_op op_add pe_int (pv 3)) pa_nil) (by rfl))) pss_nil)))
    (pss_cons (ps_fld (pv 0) (pv 1) rfl)
    (pss_cons (ps_fld (pv 0) (pe_callB call_len_seq (by rfl) T.len PySem.boot_len (pa_cons (pv 2) pa_nil)) rfl)
    (pss_one (ps_fld (pv 0) (pe_tupleOf (by rfl) T.tuple (pe_lc (own := [("entry", 4)]) (g := gName 4) (tt := tYes) (te := tThen (tVar 4) (kTup K)) rfl sc_Machine___init.nd (pi_list (pv 2)) (blkOk_by (N := N_Machine___init) (sc := defScope s_Machine___init) (by decide +kernel)) (fun _ _ _ _ _ => (pg_name (i := 4) sc_Machine___init.nd rfl (Or.inl rfl))) (fun _ _ _ _ _ => pts_nil) (fun _ _ _ _ _ => (pe_tupleOf (by rfl) T.tuple (pv 4))))) rfl))))))), ?_⟩
      refine ⟨_, rfl, x, dc, rfl, Dx, fun H1 S1 => ⟨isN dc, rfl, ?_⟩⟩
      -- the first test
      by_cases hb : badC dc = true
      · have kb := kB hb
        have hN : ∀ i, dc = .int i → i ≤ 0 := fun i e => by
          rw [e] at hb
          exact of_decide_eq_true hb
        cases Dx with
        | int i =>
          have i0 := hN i rfl
          show (if (!decide (0 ≤ i)) = true then _ else _)
          by_cases h0 : 0 ≤ i
          · have e0 : i = 0 := by omega
            rw [decide_eq_true h0]
            refine iteF ⟨_, rfl, rfl, _, rfl, ?_⟩
            rw [e0]
            refine iteT ⟨_, rfl, fun q hq => kb H1 q S1 hq⟩
          · rw [decide_eq_false h0]
            exact iteT (iteT ⟨_, rfl, fun q hq => kb H1 q S1 hq⟩)
        | non => exact iteT (iteT ⟨_, rfl, fun q hq => kb H1 q S1 hq⟩)
        | bl b => exact iteT (iteT ⟨_, rfl, fun q hq => kb H1 q S1 hq⟩)
        | str b => exact iteT (iteT ⟨_, rfl, fun q hq => kb H1 q S1 hq⟩)
        | lst _ _ => exact iteT (iteT ⟨_, rfl, fun q hq => kb H1 q S1 hq⟩)
        | tup _ _ => exact iteT (iteT ⟨_, rfl, fun q hq => kb H1 q S1 hq⟩)
        | dct _ => exact iteT (iteT ⟨_, rfl, fun q hq => kb H1 q S1 hq⟩)
      obtain ⟨A, rfl, A0⟩ : ∃ A : Int, dc = .int A ∧ 0 < A := by
        cases dc with
        | int i => exact ⟨i, rfl, by have : ¬ i ≤ 0 := fun q => hb (decide_eq_true q); omega⟩
        | none => exact absurd rfl hb
        | bool _ => exact absurd rfl hb
        | str _ => exact absurd rfl hb
        | list _ => exact absurd rfl hb
        | tuple _ => exact absurd rfl hb
        | dict _ => exact absurd rfl hb
      have kG' := kG (by simpa using hb) A rfl
      obtain rfl : x = V.int A := by cases Dx; rfl
      show (if (!decide (0 ≤ A)) = true then _ else _)
      rw [decide_eq_true (show 0 ≤ A by omega)]
      refine iteF ⟨_, rfl, rfl, _, rfl, ?_⟩
      rw [decide_eq_false (show ¬ V.int A = V.int 0 from fun e => by injection e with e; omega)]
      refine iteF ?_
      refine ⟨_, rfl, _, _, rfl, Dy.same S1, fun H2 S2 => ⟨false, rfl, iteT (iteT ⟨_, rfl, fun q hq => ?_⟩)⟩⟩
      have e : stepsRes A (.dict []) = some 1 := rfl
      rw [e] at kG'
      exact kG' H2 q (S1.trans S2) hq
end
end Lk

set_option Elab.async false
set_option linter.all false
set_option maxRecDepth 100000
set_option maxHeartbeats 4000000
namespace Lk
open PySem L2
abbrev s_is_state : Stmt := top 15
abbrev N_is_state : List Str := ["machine", "value"]
abbrev P_is_state : List Str := ["machine", "value"]
theorem sc_is_state : FnScope N_is_state P_is_state (defScope s_is_state) := ⟨rfl, rfl, rfl, by decide +kernel, rfl, by decide +kernel, by decide +kernel⟩
theorem MachAt.same {C : Addr} {H H' : Hp} {m : Addr} {A : Int} {us : List (Addr × List Int)} (k : Same H H') (x : MachAt C H m A us) : MachAt C H' m A us := by
  obtain ⟨dx, t, h1, h2, h3⟩ := x
  exact ⟨dx, t, k _ _ h1, k _ _ h2, fun u hu => k _ _ (h3 u hu)⟩
/-- objects that are no lists stand -/
def NL (H H' : Hp) : Prop := ∀ a o, H a = some o → (∀ xs, o ≠ .lst xs) → H' a = some o
theorem NL.of_sb {d l : Addr} {H H' : Hp} (x : SB d l H H') (D : DealAt H d l) : NL H H' := fun a o h n => by
  obtain ⟨bs, b, y⟩ := D
  refine x a o h (fun e => ?_) fun e => ?_
  · rw [e, y.hd] at h
    exact n _ (Option.some.inj h).symm
  · rw [e, y.hl] at h
    exact n _ (Option.some.inj h).symm
theorem NL.of_same {H H' : Hp} (x : Same H H') : NL H H' := fun a o h _ => x a o h
theorem NL.trans {H H1 H2 : Hp} (x : NL H H1) (y : NL H1 H2) : NL H H2 := fun a o h n => y a o (x a o h n) n
theorem NL.upd {H : Hp} {a : Addr} {xs : List V} {o : HO} (h : H a = some (.lst xs)) : NL H (L2.upd H a o) := fun b u e n => by
  by_cases q : b = a
  · rw [q, h] at e
    exact absurd (Option.some.inj e).symm (n xs)
  · rw [upd_ne q]
    exact e
theorem MachAt.nl {C : Addr} {H H' : Hp} {m : Addr} {A : Int} {us : List (Addr × List Int)} (k : NL H H') (x : MachAt C H m A us) : MachAt C H' m A us := by
  obtain ⟨dx, t, h1, h2, h3⟩ := x
  exact ⟨dx, t, k _ _ h1 (fun _ e => by cases e), k _ _ h2 (fun _ e => by cases e), fun u hu => k _ _ (h3 u hu) (fun _ e => by cases e)⟩
theorem fld_c (A n : Int) (t : Addr) : (fldM A n t).lookup ("commands" : Str) = some (.int A) := by
  unfold fldM
  rw [lookup_putF, if_neg (by decide +kernel), lookup_putF, if_neg (by decide +kernel), lookup_putF, if_pos rfl]
theorem fld_n (A n : Int) (t : Addr) : (fldM A n t).lookup ("states" : Str) = some (.int n) := by
  unfold fldM
  rw [lookup_putF, if_neg (by decide +kernel), lookup_putF, if_pos rfl]
theorem fld_s (A n : Int) (t : Addr) : (fldM A n t).lookup ("steps" : Str) = some (.ref t) := by
  unfold fldM
  rw [lookup_putF, if_pos rfl]
/-- the index of the first entry that is no command -/
def badV (A : Int) : List PyData → Nat → Option Nat
  | [], _ => none
  | e :: r, i => if isB A e = true then badV A r (i + 1) else some i
def rowRes (A : Int) (d : PyData) : Option Nat := if isS d = false then some 0 else badV A (itemsD d) 0
theorem badV_cons {A : Int} {e : PyData} {r : List PyData} {i : Nat} : badV A (e :: r) i = if isB A e = true then badV A r (i + 1) else some i := rfl
theorem badV_none {A : Int} : ∀ {ds : List PyData} {i : Nat}, badV A ds i = none → ds.all (isB A) = true
  | [], _, _ => rfl
  | d :: ds, i, h => by
    rw [badV_cons] at h
    by_cases hE : isB A d = true
    · rw [if_pos hE] at h
      rw [List.all_cons, hE, badV_none h] <;> rfl
    · rw [if_neg hE] at h
      cases h
def spState (CM : Addr) : Sp := fun vs H Q _ => ∃ (m : Addr) (x : V) (d : PyData) (A : Int) (us : List (Addr × List Int)), vs = [.ref m, x] ∧ MachAt CM H m A us ∧ Dv H x d ∧ ∀ H', Same H H' → Q (.bl (isB (us.length : Int) d)) H'
def spCommand (CM : Addr) : Sp := fun vs H Q _ => ∃ (m : Addr) (x : V) (d : PyData) (A : Int) (us : List (Addr × List Int)), vs = [.ref m, x] ∧ MachAt CM H m A us ∧ Dv H x d ∧ ∀ H', Same H H' → Q (.bl (isB A d)) H'
def intsD (d : PyData) : List Int := (itemsD d).map intD
def spChecked (CM CE : Addr) : Sp := fun vs H Q E => ∃ (m : Addr) (x : V) (d : PyData) (A : Int) (us : List (Addr × List Int)), vs = [.ref m, x] ∧ MachAt CM H m A us ∧ Dv H x d ∧ (itemsD d).length ≤ 1000 ∧
  match rowRes A d with
  | some k => ∀ H' q, Same H H' → H' q = none → E (.ref CE) (some q) (upd H' q (.xd [(("at" : Str), .int (k : Int))]))
  | none => ∀ H' t, Same H H' → H' t = some (.tup ((intsD d).map V.int)) → Q (.ref t) H'
section
variable {P : Program} {w : World} {K : PySem.W.Frag} {mg : Str → Option Value} {base : Heap} {CM : Addr}
theorem ok_state {f fb : Addr} {fd fdb : FuncData} (A0 : Df K mg "is_state" s_is_state f fd P_is_state) (d_is_below : Df K mg "is_below" s_is_below fb fdb P_is_below) (G_is_below : FnOk P w K mg base CX0 3 fb fdb P_is_below spBelowS) (TC : TxC K CM) : FnOk P w K mg base CX0 4 f fd P_is_state (spState CM) := by
  refine A0.F.ok sc_is_state (fun vs H Q E h => ?_) (fun cdv Ar outer s H vs Q E hr h => ?_)
  · obtain ⟨m, x, d, A, us, rfl, _⟩ := h
    rfl
  · obtain ⟨m, x, d, A, us, rfl, M, D, k⟩ := h
    refine ⟨_, (pss_one (ps_ret (pe_call G_is_below (hr.mono (by decide)) rfl d_is_below.g d_is_below.F.kp d_is_below.b .nil pass0 (pa_cons (pv 1) (pa_cons (pe_fld (pv 0) rfl) pa_nil))))), ?_⟩
    obtain ⟨dx, t, h1, h2, h3⟩ := M
    exact ⟨_, rfl, _, rfl, m, CM, dx, _, _, rfl, h1, TC.cl, TC.n2, fld_n _ _ _, x, d, _, rfl, D, k⟩
end
end Lk

set_option Elab.async false
set_option linter.all false
set_option maxRecDepth 100000
set_option maxHeartbeats 4000000
namespace Lk
open PySem L2
abbrev s_resting : Stmt := top 17
abbrev N_resting : List Str := ["machine"]
abbrev P_resting : List Str := ["machine"]
theorem sc_resting : FnScope N_resting P_resting (defScope s_resting) := ⟨rfl, rfl, rfl, by decide +kernel, rfl, by decide +kernel, by decide +kernel⟩
/-! ### what is told of a machine -/
/-- a machine's data: A commands, rows of states -/
structure MOk (A : Int) (us : List (Addr × List Int)) : Prop where
  a0 : 0 < A
  a1 : A ≤ 1000
  n1 : us.length ≤ 1000
  rs : Rs A.toNat (rsOf us)
theorem rsOf_len (us : List (Addr × List Int)) : (rsOf us).length = us.length := List.length_map ..
/-- the column of a command -/
def col (rs : List (List Int)) (c : Nat) : List Int := rs.map fun r => r.getD c 0
theorem inB {A : Int} {ds : List PyData} (h : ds.all (isB A) = true) : ∀ c ∈ ds.map intD, 0 ≤ c ∧ c < A := fun c hc => by
  obtain ⟨d, hd, rfl⟩ := List.mem_map.mp hc
  have q := List.all_eq_true.mp h d hd
  cases d with
  | int i =>
    have q' : (decide (0 ≤ i) && decide (i < A)) = true := q
    rw [Bool.and_eq_true] at q'
    exact ⟨of_decide_eq_true q'.1, of_decide_eq_true q'.2⟩
  | none => cases q
  | bool _ => cases q
  | str _ => cases q
  | list _ => cases q
  | tuple _ => cases q
  | dict _ => cases q
theorem rowRes_in {A : Int} {d : PyData} (h : rowRes A d = none) : ∀ c ∈ intsD d, 0 ≤ c ∧ c < A := by
  unfold rowRes at h
  by_cases hs : isS d = false
  · rw [if_pos hs] at h
    cases h
  · rw [if_neg hs] at h
    exact inB (badV_none h)
theorem effs_nil (rs : List (List Int)) : effs rs [] = rng rs.length := rfl
theorem effs_snoc {A : Nat} {rs : List (List Int)} (x : Rs A rs) {ns : List Int} {c : Int} (h : ∀ z ∈ ns, 0 ≤ z ∧ z < (A : Int)) (c0 : 0 ≤ c) : comp (effs rs ns) (col rs c.toNat) = effs rs (ns ++ [c]) := by
  unfold comp effs
  rw [List.map_map]
  refine List.map_congr_left fun s hs => ?_
  have hs' := List.mem_range.mp hs
  have hl := x.led (ns := ns) (s := (s : Int)) (by omega) (by omega) h
  show (col rs c.toNat).getD (led rs (s : Int) ns).toNat 0 = led rs (s : Int) (ns ++ [c])
  have e : led rs (s : Int) (ns ++ [c]) = stp rs (led rs (s : Int) ns) c := by
    unfold led
    rw [List.foldl_append]
    rfl
  rw [e]
  unfold stp col
  have hi := item_of hl.1 hl.2 ([] : List Int)
  rw [List.getD_eq_getElem?_getD, List.getElem?_map, hi]
  rfl
def spEnd (CM CR CW : Addr) : Sp := fun vs H Q E => ∃ (m : Addr) (x y : V) (dx dy : PyData) (A : Int) (us : List (Addr × List Int)), vs = [.ref m, x, y] ∧ MachAt CM H m A us ∧ MOk A us ∧ Dv H x dx ∧ Dv H y dy ∧ (itemsD dy).length ≤ 1000 ∧
  (isB (us.length : Int) dx = false → ∀ H' q, Same H H' → H' q = none → E (.ref CR) (some q) (upd H' q (.xd [(("at" : Str), .int 0)]))) ∧
  (isB (us.length : Int) dx = true → match rowRes A dy with
    | some k => ∀ H' q, Same H H' → H' q = none → E (.ref CW) (some q) (upd H' q (.xd [(("at" : Str), .int (k : Int))]))
    | none => ∀ H', Same H H' → Q (.int (led (rsOf us) (intD dx) (intsD dy))) H')
def spResting (CM : Addr) : Sp := fun vs H Q _ => ∃ (m : Addr) (A : Int) (us : List (Addr × List Int)), vs = [.ref m] ∧ MachAt CM H m A us ∧ us.length ≤ 1000 ∧ ∀ t, H t = none → Q (.ref t) (upd H t (.tup ((rng us.length).map V.int)))
def spEffects (CM : Addr) : Sp := fun vs H Q _ => ∃ (m : Addr) (A : Int) (us : List (Addr × List Int)), vs = [.ref m] ∧ MachAt CM H m A us ∧ MOk A us ∧
  ∀ H' t (ts : List (Addr × List Int)), Same H H' → H' t = some (.tup (ts.map fun u => V.ref u.1)) → (ts.length : Int) = A → (∀ u ∈ ts, H' u.1 = some (.tup (u.2.map V.int))) → (∀ (i : Nat) u, ts[i]? = some u → u.2 = col (rsOf us) i) → Q (.ref t) H'
def spFollowed : Sp := fun vs H Q _ => ∃ (a b : Addr) (f g : List Int), vs = [.ref a, .ref b] ∧ H a = some (.tup (f.map V.int)) ∧ H b = some (.tup (g.map V.int)) ∧ f.length ≤ 1000 ∧ (∀ z ∈ f, 0 ≤ z ∧ z < (g.length : Int)) ∧
  ∀ H' t, Same H H' → H' t = some (.tup ((comp f g).map V.int)) → Q (.ref t) H'
def spEff (CM CW : Addr) : Sp := fun vs H Q E => ∃ (m : Addr) (y : V) (dy : PyData) (A : Int) (us : List (Addr × List Int)), vs = [.ref m, y] ∧ MachAt CM H m A us ∧ MOk A us ∧ Dv H y dy ∧ (itemsD dy).length ≤ 1000 ∧
  match rowRes A dy with
  | some k => ∀ H' q, Same H H' → H' q = none → E (.ref CW) (some q) (upd H' q (.xd [(("at" : Str), .int (k : Int))]))
  | none => ∀ H' t, Same H H' → H' t = some (.tup ((effs (rsOf us) (intsD dy)).map V.int)) → Q (.ref t) H'
def spEop (CM CW : Addr) : Sp := fun vs H Q E => ∃ (m : Addr) (y : V) (dy : PyData) (A : Int) (us : List (Addr × List Int)) (n : Nat), vs = [.ref m, y, .int (n : Int)] ∧ MachAt CM H m A us ∧ MOk A us ∧ Dv H y dy ∧ (itemsD dy).length ≤ 1000 ∧ n < 2 ^ 63 ∧
  match rowRes A dy with
  | some k => ∀ H' q, Same H H' → H' q = none → E (.ref CW) (some q) (upd H' q (.xd [(("at" : Str), .int (k : Int))]))
  | none => ∀ H' t, Same H H' → H' t = some (.tup ((powG 63 n (effs (rsOf us) (intsD dy)) (rng us.length)).map V.int)) → Q (.ref t) H'
section
variable {P : Program} {w : World} {K : PySem.W.Frag} {mg : Str → Option Value} {base : Heap} {CM CR CW : Addr}
theorem ok_resting {f : Addr} {fd : FuncData} (A0 : Df K mg "resting" s_resting f fd P_resting) (T : Txt mg) (TC : TxC K CM) : FnOk P w K mg base CX0 1 f fd P_resting (spResting CM) := by
  refine A0.F.ok sc_resting (fun vs H Q E h => ?_) (fun cdv Ar outer s H vs Q E hr h => ?_)
  · obtain ⟨m, A, us, rfl, _⟩ := h
    rfl
  · obtain ⟨m, A, us, rfl, M, hz, k⟩ := h
    refine ⟨_, (pss_one (ps_ret (pe_tupRg rfl (by rfl) T.tuple (prg_1 (by rfl) T.range (pe_fld (pv 0) rfl))))), ?_⟩
    obtain ⟨dx, t, h1, h2, h3⟩ := M
    refine ⟨_, rfl, m, CM, dx, _, _, rfl, h1, TC.cl, TC.n2, fld_n _ _ _, _, rfl, RgOk.of_le (by decide) (by omega) (by decide) (by omega), fun q hq => ?_⟩
    rw [rgV_rng]
    exact k q hq
end
end Lk

set_option Elab.async false
set_option linter.all false
set_option maxRecDepth 100000
set_option maxHeartbeats 4000000
namespace PySem.W
open PySem PySem.Calls PyProof.Rows
section
variable {prog : Program} {w : World} {A : Around} {E : Value → Shared → Prop} {s : Shared} {K : Frag} {h₀ : Heap} {L x C f : Addr} {m : Str → Option Value} {ox : Obj} {od : Option Obj} {b tb : Value}
/-- what != makes of an own == -/
def NeB (Q : Value → Shared → Prop) (v : Value) (s' : Shared) : Prop := ∃ c : Bool, v = .bool c ∧ Q (.bool (!c)) s'
theorem boundB {M : Model} {name : Str} {id : String} {args : List Value} {Q : Option Value → Shared → Prop} (X : K.In s.heap)
    (I : InstAt s.heap x ox C od) (hs : findIn K (.ref C) name = some (some (.builtin id))) (S : Slot "object" name id)
    (h : wpAny M A (call (.builtin id) (.ref x :: args)) (fun v => Q (some v)) E s) :
    wpAny M A (callSpecialIfBound? (.ref x) name args) Q E s := by
  simp only [callSpecialIfBound?, bindSpecialIfBound?]
  refine wpAny_holding (wpAny_bind (wpAny_bind (wpAny_bind (I.type.here ((looks_findIn X hs).here ?_)))))
  simp only [S.bind]
  refine wpAny_bind (wpAny_askSetting (wpAny_ite ?_))
  have fin : wpAny M A (call (.builtin id) ([.ref x] ++ args) >>= fun v => pure (some v)) Q E s :=
    wpAny_bind (wpAny_mono h (fun v s' h' => wpAny_pure h') fun _ _ h' => h')
  split
  · exact wpAny_bind (wpAny_pure (wpAny_pure fin))
  · exact wpAny_tryCatch (wpAny_bind (wpAny_pure (wpAny_pure fin)))
theorem ne_body {Q : Fin → Shared → Prop} (hu : A.units < cLine) (X : K.In s.heap) (I : InstAt s.heap x ox C od)
    (hq : findIn K (.ref C) "__eq__" = some (some (.ref f))) (hf : isFn K (.ref f) = true)
    (h : wpAny (model prog w) A (call (.ref f) [.ref x, b]) (fun v s' => ∃ c : Bool, v = .bool c ∧ Q (.done (.ret (.bool (!c)))) s') E s) :
    wpAny (model prog w) A (Builtin.«object.__ne__» ⟨[.ref x, b], []⟩) Q E s := by
  unfold Builtin.«object.__ne__»
  refine wpAny_bind (wpAny_of_eq (a := ((Value.ref x : Value), [b])) (by first | rfl | (simp only [slotArgs]; rfl)) ?_)
  refine wpAny_bind (wpAny_cRoomFor hu ?_)
  refine wpAny_bind (ifBound_K X I hq hf (wpAny_mono h (fun v s' hv => ?_) fun _ _ e => e))
  obtain ⟨c, rfl, q⟩ := hv
  show wpAny _ _ (do let r ← truthy (.bool c); ret (.bool (!r))) _ _ _
  exact wpAny_bind (wpAny_truthy_bool (wpAny_pure q))
theorem ne_K {Q : Value → Shared → Prop} (hu : A.units + 1 < cLine) (F : Fr h₀ L s.heap m) (X₀ : K.In h₀)
    (I : InstAt s.heap x ox C od) (hb : Looks (model prog w) s.heap (typeOf b) tb) (hn : notFirst K C tb = true)
    (hs : findIn K (.ref C) "__ne__" = some (some (.builtin "object.__ne__")))
    (ho : mroIn K C (.type "object") = some true)
    (hq : findIn K (.ref C) "__eq__" = some (some (.ref f))) (hf : isFn K (.ref f) = true)
    (h : wpAny (model prog w) A.in1 (call (.ref f) [.ref x, b]) (NeB Q) E s) :
    wpAny (model prog w) A (richCompare .NotEq (.ref x) b) Q E s := by
  have X := X₀.keeps F.keep
  have sub : Looks (model prog w) s.heap (isInstance (.ref x) (.type "object")) true := I.type.andThen (looks_mroIn X ho)
  have one : wpAny (model prog w) A (tryCompare (.ref x) (cmpInfo .NotEq).2.1 b) (fun r s' => ∃ v, r = some v ∧ Q v s') E s := by
    unfold tryCompare
    refine wpAny_bind (boundB X I hs PySem.F.cmp_object.ne (wpAny_call (codeAny_call_builtin PySem.F.cmp_object.ne.plain PySem.F.cmpEntry_ne
      (check_slot PySem.F.cmpKind_ne PySem.F.cmpSplit_ne sub (PySem.F.cmpArgs_ne _ _) (ne_body (A := A.in1) hu X I hq hf ?_)))))
    refine wpAny_mono h (fun v s' hv => ?_) fun _ _ e => e
    obtain ⟨c, rfl, q⟩ := hv
    exact ⟨c, rfl, wpAny_pure ⟨_, rfl, q⟩⟩
  unfold richCompare
  simp only [oneThing_ref]
  refine wpAny_holding (wpAny_bind (wpAny_cRoomFor (Nat.lt_of_succ_lt hu) ?_))
  refine wpAny_bind (I.type.here (wpAny_bind (hb.here ?_)))
  split
  · rename_i q
    have e : subIn K tb (.ref C) = some false := by
      rcases Bool.or_eq_true_iff.mp hn with e | e
      · rw [beq_iff_eq.mp e] at q
        simp at q
      · exact beq_iff_eq.mp e
    refine wpAny_bind ((looks_subIn X e).here ?_)
    simp only [Bool.false_eq_true, if_false]
    refine wpAny_bind (wpAny_mono one (fun r s' z => ?_) fun _ _ e => e)
    obtain ⟨v, rfl, hq⟩ := z
    exact wpAny_pure hq
  · refine wpAny_bind (wpAny_pure ?_)
    simp only [Bool.false_eq_true, if_false]
    refine wpAny_bind (wpAny_mono one (fun r s' z => ?_) fun _ _ e => e)
    obtain ⟨v, rfl, hq⟩ := z
    exact wpAny_pure hq
end
end PySem.W

set_option Elab.async false
set_option linter.all false
set_option maxRecDepth 100000
set_option maxHeartbeats 4000000
namespace Lk
open PySem L2
abbrev s_Machine___eq : Stmt := inClass (top 13) 1
abbrev N_Machine___eq : List Str := ["self", "other"]
abbrev P_Machine___eq : List Str := ["self", "other"]
theorem sc_Machine___eq : FnScope N_Machine___eq P_Machine___eq (defScope s_Machine___eq) := ⟨rfl, rfl, rfl, by decide +kernel, rfl, by decide +kernel, by decide +kernel⟩
/-- what the top says of the class for isinstance and == -/
structure TxE (K : PySem.W.Frag) (mg : Str → Option Value) (C fE : Addr) : Prop where
  g : mg "Machine" = some (.ref C)
  ha : PySem.W.findIn K (.ref C) "__class__" = some (some (.builtin "object.__class__"))
  hn : PySem.W.specialIn K (.builtin "object.__class__") "__get__" = some (some (.builtin "getset_descriptor.__get__"))
  htk : PySem.W.takesIn K (.builtin "object.__class__") = some true
  hm : PySem.W.mroIn K C (.type "object") = some true
  kS : PySem.W.kitOne K (.type "str") (.ref C) = some false
  kT : PySem.W.kitOne K (.type "tuple") (.ref C) = some false
  kC : PySem.W.kitOne K (.ref C) (.ref C) = some true
  sS : PySem.W.subIn K (.type "str") (.ref C) = some false
  sT : PySem.W.subIn K (.type "tuple") (.ref C) = some false
  eq : PySem.W.findIn K (.ref C) "__eq__" = some (some (.ref fE))
  isf : PySem.W.isFn K (.ref fE) = true
  ne : PySem.W.findIn K (.ref C) "__ne__" = some (some (.builtin "object.__ne__"))
/-- the right side of == -/
inductive Rt (C : Addr) (H : Hp) : V → Option (Int × List (Addr × List Int)) → Prop
  | str (z : Str) : Rt C H (.str z) none
  | tup {a : Addr} {xs : List V} (h : H a = some (.tup xs)) : Rt C H (.ref a) none
  | mach {a : Addr} {A : Int} {us : List (Addr × List Int)} (h : MachAt C H a A us) : Rt C H (.ref a) (some (A, us))
def rowsEq (A : Int) (us : List (Addr × List Int)) : Option (Int × List (Addr × List Int)) → Bool
  | none => false
  | some (B, vs) => decide (A = B) && decide (rsOf us = rsOf vs)
def spEqM (CM : Addr) : Sp := fun vs H Q _ => ∃ (m : Addr) (y : V) (A : Int) (us : List (Addr × List Int)) (o : Option (Int × List (Addr × List Int))), vs = [.ref m, y] ∧ MachAt CM H m A us ∧ Rt CM H y o ∧ Q (.bl (rowsEq A us o)) H
def rowP (r : List Int) : PyData := .tuple (r.map PyData.int)
theorem eqv_ints : ∀ a b : List Int, PyData.eqvAll (a.map PyData.int) (b.map PyData.int) = decide (a = b)
  | [], [] => rfl
  | [], _ :: _ => rfl
  | _ :: _, [] => rfl
  | x :: a, y :: b => by
    show ((x == y) && PyData.eqvAll (a.map PyData.int) (b.map PyData.int)) = _
    rw [eqv_ints a b]
    by_cases h : x = y
    · by_cases h2 : a = b
      · rw [h, h2]
        simp
      · rw [decide_eq_false h2, Bool.and_false]
        exact (decide_eq_false fun e => h2 (by injection e)).symm
    · have e : (x == y) = false := by simpa using h
      rw [e, Bool.false_and]
      exact (decide_eq_false fun e => h (by injection e)).symm
theorem eqv_rows : ∀ a b : List (List Int), PyData.eqvAll (a.map rowP) (b.map rowP) = decide (a = b)
  | [], [] => rfl
  | [], _ :: _ => rfl
  | _ :: _, [] => rfl
  | x :: a, y :: b => by
    show (PyData.eqvAll (x.map PyData.int) (y.map PyData.int) && PyData.eqvAll (a.map rowP) (b.map rowP)) = _
    rw [eqv_ints x y, eqv_rows a b]
    by_cases h : x = y
    · by_cases h2 : a = b
      · rw [h, h2]
        simp
      · rw [decide_eq_false h2, Bool.and_false]
        exact (decide_eq_false fun e => h2 (by injection e)).symm
    · rw [decide_eq_false h, Bool.false_and]
      exact (decide_eq_false fun e => h (by injection e)).symm
theorem canLay_rows : ∀ a : List (List Int), PyData.canLayAll0 (a.map rowP) = true
  | [] => rfl
  | x :: a => by
    show (PyData.canLayAll0 (x.map PyData.int) && PyData.canLayAll0 (a.map rowP)) = true
    rw [canLay_ints, canLay_rows a] <;> rfl
theorem depth_rows : ∀ a : List (List Int), PyData.depthAll (a.map rowP) ≤ 2
  | [] => by decide
  | x :: a => by
    have h := depth_rows a
    have h2 := depth_ints x
    show max (PyData.depth (rowP x)) (PyData.depthAll (a.map rowP)) ≤ 2
    have e : PyData.depth (rowP x) = PyData.depthAll (x.map PyData.int) + 1 := rfl
    omega
theorem shaped_rows (a : List (List Int)) : SeqAt.shaped (.tuple (a.map rowP)) = true := by
  have h1 : PyData.canLay0 (.tuple (a.map rowP)) = true := canLay_rows a
  have h2 : PyData.depth (.tuple (a.map rowP)) = PyData.depthAll (a.map rowP) + 1 := rfl
  have h3 := depth_rows a
  unfold SeqAt.shaped
  rw [h1, Bool.true_and]
  exact decide_eq_true (by omega)
theorem dp_rows {K : PySem.W.Frag} {H : Hp} : ∀ {us : List (Addr × List Int)}, (∀ u ∈ us, H u.1 = some (.tup (u.2.map V.int))) → DpAll K H (us.map fun u => V.ref u.1) ((rsOf us).map rowP)
  | [], _ => .nil
  | u :: us, h => .cons (.tup (SqT.of (h u List.mem_cons_self)) (dpAll_ints _)) (dp_rows fun v hv => h v (List.mem_cons_of_mem _ hv))
section
variable {P : Program} {w : World} {K : PySem.W.Frag} {mg : Str → Option Value} {base : Heap} {CM fE : Addr}
theorem ok_eq {f : Addr} {fd : FuncData} (F : Fun K "__eq__" "Machine.__eq__" s_Machine___eq f fd) (T : Txt mg) (TC : TxC K CM) (TE : TxE K mg CM fE) : FnOk P w K mg base CX0 1 f fd P_Machine___eq (spEqM CM) := by
  refine F.ok sc_Machine___eq (fun vs H Q E h => ?_) (fun cdv Ar outer s H vs Q E hr h => ?_)
  · obtain ⟨m, y, A, us, o, rfl, _⟩ := h
    rfl
  · obtain ⟨m, y, A, us, o, rfl, M, R, k⟩ := h
    have hu : Ar.units + 3 + 64 < cLine := by have := hr.un; simp only [Around.deeper] at this; omega
    refine ⟨_, (pss_one (ps_ret (pe_and (pe_callB call_isi (by rfl) T.isinstance PyProof.Rows.boot_isinstance (pa_cons (pv 1) (pa_cons (pe_glob (v := .ref CM) (by rfl) TE.g rfl) pa_nil)))
      (pe_and (pe_cmpR op_eq (pe_fld (pv 0) rfl) (pe_fld (pv 1) rfl) (nomark _)) (pe_one (pe_cmpR (op_eqD hu) (pe_fld (pv 0) rfl) (pe_fld (pv 1) rfl) (nomark _))))))), ?_⟩
    cases R with
    | str z => exact ⟨_, rfl, _, _, _, _, false, rfl, .own _, .base (.str z), TE.kS, false, rfl, iteF k⟩
    | tup h => exact ⟨_, rfl, _, _, _, _, false, rfl, .own _, .base (.tup h), TE.kT, false, rfl, iteF k⟩
    | @mach b B vs h =>
      obtain ⟨dx, t, h1, h2, h3⟩ := M
      obtain ⟨dx', t', h1', h2', h3'⟩ := h
      refine ⟨_, rfl, _, _, _, _, true, rfl, .own _, .base (.ins h1' TC.cl TE.ha TE.hn TE.htk TE.hm), TE.kC, true, rfl, iteT ?_⟩
      refine ⟨_, rfl, m, CM, dx, _, _, rfl, h1, TC.cl, TC.n1, fld_c _ _ _, _, rfl, b, CM, dx', _, _, rfl, h1', TC.cl, TC.n1, fld_c _ _ _, rfl, _, rfl, ?_⟩
      have hk : Q (.bl (decide (A = B) && decide (rsOf us = rsOf vs))) H := k
      by_cases hAB : A = B
      · rw [decide_eq_true hAB, Bool.true_and] at hk
        rw [decide_eq_true (show V.int A = V.int B by rw [hAB])]
        refine iteT ⟨_, rfl, m, CM, dx, _, _, rfl, h1, TC.cl, TC.n3, fld_s _ _ _, _, rfl, b, CM, dx', _, _, rfl, h1', TC.cl, TC.n3, fld_s _ _ _, _, _, Dp.tup (SqT.of h2) (dp_rows h3), Dp.tup (SqT.of h2') (dp_rows h3'), shaped_rows _, shaped_rows _, ?_⟩
        rw [show PyData.eqv (.tuple ((rsOf us).map rowP)) (.tuple ((rsOf vs).map rowP)) = PyData.eqvAll ((rsOf us).map rowP) ((rsOf vs).map rowP) from rfl, eqv_rows]
        exact hk
      · rw [decide_eq_false hAB, Bool.false_and] at hk
        rw [decide_eq_false (show ¬ V.int A = V.int B from fun e => hAB (by injection e))]
        exact iteF hk
/-! ### == and != of machines, as operators -/
def rMq (CM : Addr) (neg : Bool) : R2 := fun x y H Q => ∃ (m : Addr) (A : Int) (us : List (Addr × List Int)) (o : Option (Int × List (Addr × List Int))), x = .ref m ∧ MachAt CM H m A us ∧ Rt CM H y o ∧ Q (.bl (if neg then !(rowsEq A us o) else rowsEq A us o)) H
theorem rt_type {X : Cx} {pins : List (Addr × Obj)} {σ : St} {H : Hp} {s : Shared} {y : V} {v : Value} {o : Option (Int × List (Addr × List Int))} (I : Inv X pins σ H s) (r : RelV y v) (R : Rt CM H y o) (TE : TxE X.K X.mg CM fE) :
    ∃ tb, PySem.W.Looks (model X.prog X.w) s.heap (typeOf v) tb ∧ PySem.W.notFirst X.K CM tb = true := by
  cases R with
  | str z =>
    obtain ⟨t, rfl⟩ := (show ∃ t, v = Value.str z t from r)
    exact ⟨.type "str", .now, by unfold PySem.W.notFirst; rw [TE.sS] <;> rfl⟩
  | @tup a xs h =>
    cases (show v = Value.ref a from r)
    obtain ⟨_, _, _, ob, h1, h2, _⟩ := (show ObjOk X.prog X.w H s.heap a (.tup xs) from I.hok a _ h)
    refine ⟨.type "tuple", fun A Q E s k q => wpAny_typeOf_ref (k _ _ h1) (by rw [h2]; exact q), by unfold PySem.W.notFirst; rw [TE.sT] <;> rfl⟩
  | @mach a A us h =>
    cases (show v = Value.ref a from r)
    obtain ⟨dx, t, h1, _⟩ := h
    obtain ⟨mA, J, _⟩ := ins_get I.hok h1
    obtain ⟨od, J, _⟩ := J.look
    exact ⟨.ref CM, J.type, by simp [PySem.W.notFirst]⟩
section
variable {X : Cx} {f : Addr} {fd : FuncData} {ps : List Str}
theorem run_eq {A : Around} {pins : List (Addr × Obj)} {σ : St} {H : Hp} {s : Shared} {m : Addr} {y : V} {v : Value} {M : Int} {us : List (Addr × List Int)} {o : Option (Int × List (Addr × List Int))} {Q : VK} (F : FnOk X.prog X.w X.K X.mg X.base CX0 1 fE fd P_Machine___eq (spEqM CM)) (hb : Binds X.K fd P_Machine___eq [])
    (hr : Room 1 A) (hfr : A.frames = X.A.frames) (I : Inv X pins σ H s) (r : RelV y v) (MA : MachAt CM H m M us) (R : Rt CM H y o) (q : Q (.bl (rowsEq M us o)) H) :
    wpAny (model X.prog X.w) A (call (.ref fE) [.ref m, v]) (fun u s' => u = .bool (rowsEq M us o) ∧ ∃ H', Inv X pins σ H' s' ∧ Q (.bl (rowsEq M us o)) H') X.xe s := by
  have hsp : spEqM CM [.ref m, y] H (fun z H' => z = .bl (rowsEq M us o) ∧ Q (.bl (rowsEq M us o)) H') (fun _ _ _ => False) := ⟨m, y, M, us, o, rfl, MA, R, rfl, q⟩
  have e0 : Env0 X.prog X.w X.K X.mg X.base A X.stack s H := by
    have e := I.env0
    exact ⟨by rw [hfr]; exact e.frames, e.mod, e.bs, e.bsz, e.funs, e.frf, e.hok, e.bare⟩
  have r2 : Vals [V.ref m, y] [Value.ref m, v] := .cons rfl (.cons r .nil)
  refine wpAny_call (codeAny_mono (F.run A X.stack s H ⟨[.ref m, v], []⟩ [.ref m, v] [.ref m, y] _ _ hr e0 (by
    have := hb s [.ref m, v] I.kIn (by rfl)
    simpa using this) r2 hsp) fun r s' hq => ?_)
  cases r with
  | error e => exact False.elim hq
  | ok fl =>
    cases fl with
    | ret u =>
      obtain ⟨z, H', I', rz, ez, ex⟩ := I.after hq
      subst ez
      cases rz
      exact ⟨rfl, H', I', ex⟩
    | next => exact False.elim hq
    | brk => exact False.elim hq
    | cont => exact False.elim hq
theorem op_eqM (F : FnOk X.prog X.w X.K X.mg X.base CX0 1 fE fd P_Machine___eq (spEqM CM)) (hb : Binds X.K fd P_Machine___eq []) (TE : TxE X.K X.mg CM fE) (hr : Room 1 X.A) : OpR X (compareOp .Eq) (rMq CM false) := by
  intro pins s σ H x y v u Q I rx ry h
  obtain ⟨m, A, us, o, rfl, M, R, q⟩ := h
  cases (show v = Value.ref m from rx)
  obtain ⟨tb, ht, hn⟩ := rt_type I ry R TE
  obtain ⟨dx, t, h1, _⟩ := id M
  obtain ⟨mA, J, _⟩ := ins_get I.hok h1
  obtain ⟨od, J, _⟩ := J.look
  obtain ⟨mm, hF⟩ := I.fr
  refine PySem.W.cmp_ofEq (PySem.W.cmp_K (op := .Eq) (tb := tb) hr.units0 hF I.ok.mod.kin J ht hn TE.eq TE.isf ?_)
  refine wpAny_mono (run_eq F hb hr rfl I ry M R q) (fun u s' hu => ?_) fun _ _ z => z
  obtain ⟨rfl, H', I', q'⟩ := hu
  exact ⟨.bl _, H', I', rfl, q'⟩
theorem op_neM (F : FnOk X.prog X.w X.K X.mg X.base CX0 1 fE fd P_Machine___eq (spEqM CM)) (hb : Binds X.K fd P_Machine___eq []) (TE : TxE X.K X.mg CM fE) (hr : Room 2 X.A) : OpR X (compareOp .NotEq) (rMq CM true) := by
  intro pins s σ H x y v u Q I rx ry h
  obtain ⟨m, A, us, o, rfl, M, R, q⟩ := h
  cases (show v = Value.ref m from rx)
  obtain ⟨tb, ht, hn⟩ := rt_type I ry R TE
  obtain ⟨dx, t, h1, _⟩ := id M
  obtain ⟨mA, J, _⟩ := ins_get I.hok h1
  obtain ⟨od, J, _⟩ := J.look
  obtain ⟨mm, hF⟩ := I.fr
  have hu := hr.un
  have hr1 : Room 1 X.A.in1 := ⟨hr.hd, by have := hr.dp; show X.A.depth + 3 * 1 + 5 < _; omega, by show X.A.units + 1 + 16 * 1 + 200 < cLine; omega⟩
  refine PySem.W.cmp_ofNotEq (PySem.W.ne_K (tb := tb) (by omega) hF I.ok.mod.kin J ht hn TE.ne TE.hm TE.eq TE.isf ?_)
  refine wpAny_mono (run_eq (Q := fun z H' => Q (.bl (!(rowsEq A us o))) H') F hb hr1 rfl I ry M R q) (fun u s' hu => ?_) fun _ _ z => z
  obtain ⟨rfl, H', I', q'⟩ := hu
  exact ⟨_, rfl, .bl _, H', I', rfl, q'⟩
end
end
end Lk

set_option Elab.async false
set_option linter.all false
set_option maxRecDepth 100000
set_option maxHeartbeats 4000000
namespace Lk
open PySem L2
/-! ### what a machine is made of -/
theorem dvAll_ints {H : Hp} : ∀ ns : List Int, DvAll H (ns.map V.int) (ns.map PyData.int)
  | [] => .nil
  | _ :: ns => .cons (.int _) (dvAll_ints ns)
def lstP (r : List Int) : PyData := .list (r.map PyData.int)
theorem dv_rowsL {H : Hp} : ∀ {ts : List (Addr × List Int)}, (∀ t ∈ ts, H t.1 = some (.lst (t.2.map V.int))) → DvAll H (ts.map fun t => V.ref t.1) ((rsOf ts).map lstP)
  | [], _ => .nil
  | t :: ts, h => .cons (.lst (h t List.mem_cons_self) (dvAll_ints _)) (dv_rowsL fun u hu => h u (List.mem_cons_of_mem _ hu))
theorem dv_rowsT {H : Hp} : ∀ {ts : List (Addr × List Int)}, (∀ t ∈ ts, H t.1 = some (.tup (t.2.map V.int))) → DvAll H (ts.map fun t => V.ref t.1) ((rsOf ts).map rowP)
  | [], _ => .nil
  | t :: ts, h => .cons (.tup (h t List.mem_cons_self) (dvAll_ints _)) (dv_rowsT fun u hu => h u (List.mem_cons_of_mem _ hu))
theorem isB_ints {n : Int} : ∀ {r : List Int}, (∀ z ∈ r, 0 ≤ z ∧ z < n) → (r.map PyData.int).all (isB n) = true
  | [], _ => rfl
  | z :: r, h => by
    obtain ⟨h0, h1⟩ := h z List.mem_cons_self
    have e : isB n (.int z) = true := by
      show (decide (0 ≤ z) && decide (z < n)) = true
      rw [decide_eq_true h0, decide_eq_true h1] <;> rfl
    rw [List.map_cons, List.all_cons, e, isB_ints fun y hy => h y (List.mem_cons_of_mem _ hy)] <;> rfl
theorem intD_ints : ∀ r : List Int, (r.map PyData.int).map intD = r
  | [] => rfl
  | z :: r => by
    rw [List.map_cons, List.map_cons, intD_ints r] <;> rfl
theorem isE_lst {A : Nat} {n : Int} {r : List Int} (h : r.length = A ∧ ∀ z ∈ r, 0 ≤ z ∧ z < n) : isE A n (lstP r) = true := by
  show (true && (decide (((r.map PyData.int).length : Int) = A) && (r.map PyData.int).all (isB n))) = true
  rw [isB_ints h.2, List.length_map, h.1]
  simp
theorem isE_tup {A : Nat} {n : Int} {r : List Int} (h : r.length = A ∧ ∀ z ∈ r, 0 ≤ z ∧ z < n) : isE A n (rowP r) = true := by
  show (true && (decide (((r.map PyData.int).length : Int) = A) && (r.map PyData.int).all (isB n))) = true
  rw [isB_ints h.2, List.length_map, h.1]
  simp
theorem badAt_all {A n : Int} : ∀ {ds : List PyData} {i : Nat}, (∀ e ∈ ds, isE A n e = true) → badAt A n ds i = none
  | [], _, _ => rfl
  | d :: ds, i, h => by
    rw [badAt_cons, if_pos (h d List.mem_cons_self)]
    exact badAt_all fun e he => h e (List.mem_cons_of_mem _ he)
theorem stepsRes_ok {A : Int} {d : PyData} (h1 : isS d = true) (h2 : itemsD d ≠ []) (h3 : ∀ e ∈ itemsD d, isE A ((itemsD d).length : Int) e = true) : stepsRes A d = none := by
  unfold stepsRes
  rw [if_neg (fun q => q.elim (fun e => by rw [h1] at e; cases e) h2), badAt_all h3] <;> rfl
/-- rows, each as a list or a tuple -/
theorem stepsRes_rows {A : Nat} {rs : List (List Int)} {d : PyData} {g : List Int → PyData} (h1 : isS d = true) (h2 : itemsD d = rs.map g) (hg : ∀ (n : Int) r, r.length = A ∧ (∀ z ∈ r, 0 ≤ z ∧ z < n) → isE A n (g r) = true) (x : Rs A rs) : stepsRes A d = none := by
  refine stepsRes_ok h1 (fun e => ?_) fun e he => ?_
  · rw [h2] at e
    have := x.pos
    rw [List.map_eq_nil_iff.mp e] at this
    exact absurd this (by decide)
  · rw [h2] at he ⊢
    obtain ⟨r, hr, rfl⟩ := List.mem_map.mp he
    rw [List.length_map]
    exact hg _ r (x.row r hr)
/-- what Machine(..) makes: the number of the refusal -/
def makeRes (dc ds : PyData) : Option Int := if badC dc = true then some 0 else stepsRes (intD dc) ds
theorem make_any {CM CE : Addr} {H1 : Hp} {x y : V} {dc ds : PyData} {Q : Addr → Hp → Prop} {E : XK} (Dx : Dv H1 x dc) (Dy : Dv H1 y ds) (n1 : (itemsD ds).length ≤ 1000) (n2 : ∀ e ∈ itemsD ds, (itemsD e).length ≤ 1000)
    (h : match makeRes dc ds with
      | some k => ∀ H' q, Same H1 H' → H' q = none → E (.ref CE) (some q) (upd H' q (.xd [(("at" : Str), .int k)]))
      | none => ∀ H' m us, Same H1 H' → H1 m = none → MachAt CM H' m (intD dc) us → rsOf us = (itemsD ds).map rowD → Q m H') :
    ∀ x0 dx, H1 x0 = none → H1 dx = none → dx ≠ x0 → spInit CM CE (.ref x0 :: ([x, y] ++ [])) (upd (upd H1 dx (.own x0)) x0 (.ins CM dx [])) (fun v H2 => v = .non ∧ Q x0 H2) E := by
  intro x0 dx h0 hd hne
  have hx0 : upd H1 dx (.own x0) x0 = none := by rw [upd_ne (Ne.symm hne)]; exact h0
  have S1 : Same H1 (upd (upd H1 dx (.own x0)) x0 (.ins CM dx [])) := (Same.new hd).trans (Same.new hx0)
  refine ⟨x0, dx, x, y, dc, ds, rfl, upd_same, Dx.same S1, Dy.same S1, n1, n2, fun hb => ?_, fun hb A hA => ?_⟩
  · unfold makeRes at h
    rw [if_pos hb] at h
    exact fun H' d S' hd' => h H' d (S1.trans S') hd'
  · subst hA
    unfold makeRes at h
    rw [if_neg (by rw [hb]; decide)] at h
    have eA : intD (.int A) = A := rfl
    rw [eA] at h
    cases e : stepsRes A ds with
    | some k =>
      rw [e] at h
      exact fun H' d S' hd' => h H' d (S1.trans S') hd'
    | none =>
      rw [e] at h
      refine fun H' us kp M eR => ⟨rfl, h H' x0 us (fun a o ha => kp.get (fun q => ?_) (S1 a o ha)) h0 M eR⟩
      rw [q, h0] at ha
      cases ha
theorem pass_never {P : Program} {w : World} {X : Cx} : Passes (L2.CX P w) X E0 := fun _ _ _ _ _ _ _ ⟨_, _, _, _, _, _, _, _, _, _, _, _, he⟩ => he.elim
theorem rowD_lst (r : List Int) : rowD (lstP r) = r := intD_ints r
theorem rowD_tup (r : List Int) : rowD (rowP r) = r := intD_ints r
theorem map_rowD {g : List Int → PyData} (hg : ∀ r, rowD (g r) = r) : ∀ rs : List (List Int), (rs.map g).map rowD = rs
  | [] => rfl
  | r :: rs => by rw [List.map_cons, List.map_cons, hg, map_rowD hg rs]
/-! ### beside -/
/-- the rows of two machines side by side; rs: the rows of the first so far -/
def bR (rs2 : List (List Int)) (e f : List Int) : List Int := List.zipWith (fun s t => s * (rs2.length : Int) + t) e f
def bG' (rs2 rs : List (List Int)) : List (List Int) := rs.flatMap fun e => rs2.map (bR rs2 e)
def bG (rs1 rs2 : List (List Int)) : List (List Int) := bG' rs2 rs1
theorem Rs.beside {A : Nat} {rs1 rs2 : List (List Int)} (x : Rs A rs1) (y : Rs A rs2) : (bG rs1 rs2).length = rs1.length * rs2.length ∧ Rs A (bG rs1 rs2) := by
  have hl : (bG rs1 rs2).length = rs1.length * rs2.length := by
    unfold bG bG'
    rw [List.length_flatMap]
    simp only [List.length_map]
    rw [List.map_const', List.sum_replicate_nat]
  refine ⟨hl, by rw [hl]; exact Nat.mul_pos x.pos y.pos, fun r hr => ?_⟩
  obtain ⟨e, he, hr⟩ := List.mem_flatMap.mp hr
  obtain ⟨f, hf, rfl⟩ := List.mem_map.mp hr
  obtain ⟨e1, e2⟩ := x.row e he
  obtain ⟨f1, f2⟩ := y.row f hf
  unfold bR
  refine ⟨by rw [List.length_zipWith, e1, f1, Nat.min_self], fun z hz => ?_⟩
  obtain ⟨i, hi, rfl⟩ := List.mem_iff_getElem.mp hz
  rw [List.length_zipWith] at hi
  rw [List.getElem_zipWith, hl]
  obtain ⟨a0, a1⟩ := e2 _ (List.getElem_mem (l := e) (n := i) (by omega))
  obtain ⟨b0, b1⟩ := f2 _ (List.getElem_mem (l := f) (n := i) (by omega))
  have q1 := Int.mul_nonneg a0 (Int.natCast_nonneg rs2.length)
  have q2 : (e[i] + 1) * (rs2.length : Int) ≤ (rs1.length : Int) * (rs2.length : Int) := Int.mul_le_mul_of_nonneg_right (by omega) (by omega)
  rw [Int.add_mul] at q2
  refine ⟨by omega, ?_⟩
  rw [Int.natCast_mul]
  omega
section
variable {K : PySem.W.Frag} {te : TE} {σ : St} {H1 : Hp} {D : Addr} {Qd : Hp → Prop}
/-- a comprehension over zip of two tuples of ints of one length, into slots 5 and 6 -/
theorem lcZ {i j : Nat} {a b : Addr} {xs ys : List Int} (F : Int → Int → Int) (hl : xs.length = ys.length) (hD : H1 D = none) (hn : xs.length ≤ 1000000) (ha : SqT K H1 a (xs.map V.int)) (hb : SqT K H1 b (ys.map V.int))
    (hw : ∀ x y : V, wipe (((wipe σ [i, j]).set i (some x)).set j (some y)) [i, j] = wipe σ [i, j])
    (hs : ∀ (x y : Int) H, Same H1 H → ∀ Q : VK, (∀ H4, Same H H4 → Q (.int (F x y)) H4) → te (((wipe σ [i, j]).set i (some (.int x))).set j (some (.int y))) H Q)
    (hd : ∀ H', H' D = some (.lst ((List.zipWith F xs ys).map V.int)) → Same H1 H' → Qd H') :
    ∃ W : Nat → Nat → Hp → Prop, (∃ m, W 0 m (upd H1 D (.lst []))) ∧ ∀ k m H, W k m H →
      ((RZ.ItzT K a b).stop k H ∧ Qd H) ∨ ((RZ.ItzT K a b).go k H ∧ ∃ Nx : Hp → Prop, (∀ H', Nx H' → ∃ m', m' < m ∧ W (k + 1) m' H') ∧ ∀ x H', (RZ.ItzT K a b).yld k H x H' → gTup K 2 (gCons (gName i) (gCons (gName j) gNil)) x (wipe σ [i, j]) H' fun σ2 H2 => wipe σ2 [i, j] = wipe σ [i, j] ∧ tYes σ2 H2 fun b H3 =>
        if b = true then te σ2 H3 fun y H4 => ∃ acc, H4 D = some (.lst acc) ∧ acc.length < sizeLine ∧ Nx (upd H4 D (.lst (acc ++ [y]))) else Nx H3) := by
  refine ⟨fun k m H => m = xs.length - k ∧ k ≤ xs.length ∧ Same H1 H ∧ H D = some (.lst ((List.zipWith F (xs.take k) (ys.take k)).map V.int)), ⟨xs.length, rfl, Nat.zero_le _, (KP.new (S := fun _ => False) hD).toSame, upd_same⟩, ?_⟩
  rintro k m H ⟨rfl, hk, S, hD2⟩
  have qa := sameT S ha
  have qb := sameT S hb
  by_cases hlt : k < xs.length
  · have hlt2 : k < ys.length := by omega
    have ga : (xs.map V.int)[k]? = some (V.int xs[k]) := by rw [List.getElem?_map, List.getElem?_eq_getElem hlt] <;> rfl
    have gb : (ys.map V.int)[k]? = some (V.int ys[k]) := by rw [List.getElem?_map, List.getElem?_eq_getElem hlt2] <;> rfl
    refine .inr ⟨⟨_, _, _, _, qa, qb, ga, gb⟩, fun H => Same H1 H ∧ H D = some (.lst ((List.zipWith F (xs.take (k + 1)) (ys.take (k + 1))).map V.int)), fun H' p => ⟨xs.length - (k + 1), by omega, rfl, hlt, p.1, p.2⟩, ?_⟩
    rintro v H' ⟨T, x, y, rfl, hT, rfl, f1, f2⟩
    have ex := f1 _ qa
    rw [ga] at ex
    obtain rfl := Option.some.inj ex
    have ey := f2 _ qb
    rw [gb] at ey
    obtain rfl := Option.some.inj ey
    have ST : Same H (upd H T (.tup [V.int xs[k], V.int ys[k]])) := Same.new hT
    refine ⟨T, _, rfl, SqT.of upd_same, rfl, _, _, rfl, _, _, rfl, rfl, hw _ _, iteT (B := Same H1 (upd H T (.tup [V.int xs[k], V.int ys[k]])) ∧ (upd H T (.tup [V.int xs[k], V.int ys[k]])) D = some (.lst ((List.zipWith F (xs.take (k + 1)) (ys.take (k + 1))).map V.int))) ?_⟩
    refine hs _ _ _ (S.trans ST) _ fun H4 S4 => ⟨_, S4 _ _ (ST _ _ hD2), ?_, ((KP.same (S := fun _ => False) ((S.trans ST).trans S4)).mut hD).toSame, ?_⟩
    · rw [List.length_map, List.length_zipWith, List.length_take, List.length_take]
      exact Nat.lt_of_le_of_lt (show _ ≤ 1000000 by omega) (by decide)
    · rw [upd_same, take_next (List.getElem?_eq_getElem hlt), take_next (List.getElem?_eq_getElem hlt2), List.zipWith_append (by rw [List.length_take, List.length_take, hl]), List.map_append]
      rfl
  · have e : k = xs.length := by omega
    subst e
    refine .inl ⟨⟨_, _, qa, qb, .inl (by rw [List.length_map]; exact Nat.le_refl _)⟩, hd H ?_ S⟩
    rw [List.take_length, hl, List.take_length] at hD2
    exact hD2
end
section
variable {P : Program} {w : World} {K : PySem.W.Frag} {mg : Str → Option Value} {base : Heap} {CM CR CE : Addr}
def spBeside (CM CR : Addr) : Sp := fun vs H Q E => ∃ (m1 m2 : Addr) (A B : Int) (us ws : List (Addr × List Int)), vs = [.ref m1, .ref m2] ∧ MachAt CM H m1 A us ∧ MOk A us ∧ MachAt CM H m2 B ws ∧ MOk B ws ∧ us.length * ws.length ≤ 1000 ∧
  (A ≠ B → ∀ H' q, Same H H' → H' q = none → E (.ref CR) (some q) (upd H' q (.xd [(("at" : Str), .int 0)]))) ∧
  (A = B → ∀ H' m xs, Same H H' → H m = none → MachAt CM H' m A xs → rsOf xs = bG (rsOf us) (rsOf ws) → Q (.ref m) H')
end
end Lk

set_option Elab.async false
set_option linter.all false
set_option maxRecDepth 100000
set_option maxHeartbeats 4000000
/-! a try of which each clause binds the exception: several of them -/
namespace Lk
open PySem PySem.Spec PyProof.Rows L2
/-- the ends of a suite behind which the slot is empty again -/
def endsAs (i : Nat) (D : Ends) : Ends := { nx := fun σ' H' => D.nx (σ'.set i none) H', rt := D.rt, bk := fun σ' H' => D.bk (σ'.set i none) H', ct := fun σ' H' => D.ct (σ'.set i none) H' }
abbrev Suit := Addr → Value → Option Addr → TS
/-- what the clauses ask of an exception of the class cls: the first that takes it gets it into slot i -/
def wAll (K : PySem.W.Frag) (i : Nat) (Wo : WX) (D : Ends) : List (Value × Suit) → WX
  | [] => Wo
  | q :: r => fun cls d σ H => ∃ b, PySem.W.exmOne K cls q.1 = some b ∧ (if b = true then ∀ a, H a = none → q.2 a cls d (endsAs i D) (σ.set i (some (.ref a))) H else wAll K i Wo D r cls d σ H)
section
variable {X : Cx} {i : Nat} {n : Str}
/-- the clauses of the text, each with what its suite does -/
inductive Clauses (X : Cx) (n : Str) : List ExceptHandler → List (Value × Suit) → Prop
  | nil : Clauses X n [] []
  | cons {x : Str} {c : Value} {ts : Suit} {b : Stmt} {bs : List Stmt} {p1 p2 : Pos} {hs : List ExceptHandler} {l : List (Value × Suit)} (nm : Names X x c)
      (su : ∀ a oe cls d pn, Zc cls d oe → (∃ vs, oe.data = .fields vs) → PSs (X.suite a ((a, oe) :: pn)) (b :: bs) (ts a cls d)) (tl : Clauses X n hs l) :
      Clauses X n (.ExceptHandler (some (.Name x p1)) (some n) (b :: bs) p2 :: hs) ((c, ts) :: l)
/-- an exception at a has been noted, and stands on the ground: sI the state it left -/
structure Ground (X : Cx) (pins : List (Addr × Obj)) (σ : L2.St) (H : Hp) (cls : Value) (d : Option Addr) (a : Addr) (B : Heap) (sI s : Shared) : Prop where
  inv : Inv X pins σ H sI
  keep : ∀ b o, sI.heap.get? b = some o → b ∉ frs X.stack → B.get? b = some o
  up : sI.heap.UpToSlots s.heap
  fl : HandSPX.FlyingZ B (X.env :: X.outer) a (Zc cls d) s.heap
  fresh : H a = none
  os : s.os = sI.os
  bare : AllBare s.gens
theorem Ground.now {pins : List (Addr × Obj)} {σ : L2.St} {H : Hp} {cls : Value} {d : Option Addr} {a : Addr} {B : Heap} {sI s : Shared} (hs : X.stack = X.env :: X.outer) (g : Ground X pins σ H cls d a B sI s) : Inv X pins σ H s :=
  g.inv.landed g.keep g.fl.1 g.up g.os g.bare
/-- it lies in none of the frames -/
theorem Ground.off {pins : List (Addr × Obj)} {σ : L2.St} {H : Hp} {cls : Value} {d : Option Addr} {a : Addr} {B : Heap} {sI s : Shared} (hf : X.env.frame = some X.env.locals) (g : Ground X pins σ H cls d a B sI s) : a ≠ X.env.locals ∧ a ∉ X.fs := by
  obtain ⟨oe, vs, he, hz, hd⟩ := g.fl.there
  have no : a ∉ frs (X.env :: X.outer) := fun m => by
    obtain ⟨_, o2, e2, k⟩ := g.fl.2.2.1.mem m
    rw [he] at e2
    exact k vs ((Option.some.inj e2) ▸ hd)
  refine ⟨fun z => no (List.mem_filterMap.mpr ⟨X.env, List.mem_cons_self, by rw [hf, z]⟩), fun m => ?_⟩
  obtain ⟨e, he2, q⟩ := List.mem_filterMap.mp m
  exact no (List.mem_filterMap.mpr ⟨e, List.mem_cons_of_mem _ he2, q⟩)
theorem ground_all {pins : List (Addr × Obj)} {σ : L2.St} {H : Hp} {cls : Value} {d : Option Addr} {a : Addr} {B : Heap} {sI s : Shared} {D : Ends} {Wo : WX} (hs : X.stack = X.env :: X.outer) (hf : X.env.frame = some X.env.locals) (hN : X.N.Nodup) (hi : X.N[i]? = some n)
    (hl : X.env.kindOf n = some .local) (tk : Takes X Wo) (ok : X.calm = true → X.A.handled = none) (g : Ground X pins σ H cls d a B sI s) : ∀ {hds : List ExceptHandler} {l : List (Value × Suit)}, Clauses X n hds l → wAll X.K i Wo D l cls d σ H →
    wpAny (model X.prog X.w) X.A (handleBy (.ref a) X.env hds) (SP X pins D) X.xe s := by
  have I3 := g.now hs
  obtain ⟨oL, oF⟩ := g.off hf
  obtain ⟨oe, vs, he, hz, hd⟩ := g.fl.there
  have lk : PySem.W.Looks (model X.prog X.w) s.heap (typeOf (.ref a)) cls := fun A Q E s k q => wpAny_typeOf_ref (k _ _ he) (by rw [hz.1]; exact q)
  intro hds l cl
  induction cl with
  | nil =>
    intro w
    obtain ⟨_, _, _, ox, ws, T, oT, tT, ex, zx, dx, h1, hr⟩ := id g.fl
    refine wpAny_handleBy_nil ?_
    unfold PySem.passOn
    refine wpAny_bind (wpAny_field ex dx h1 ?_)
    rw [if_neg (show ¬ ((Value.ref T == Value.none) = true) by simp)]
    have last : wpAny (model X.prog X.w) X.A (setFlight (.ref a) X.env.frame) (fun _ z => wpAny (model X.prog X.w) X.A (throw (.ref a) : Sem Flow) (SP X pins D) X.xe z) X.xe s := by
      rw [hf]
      exact HandSPX.setFlight_upZ g.fl fun h4 q4 up4 => wpAny_throw (tk _ _ ⟨a, B, sI, pins, σ, H, cls, d, rfl, g.inv, g.keep, g.up.trans up4, .inr (.inr (by rw [hs]; exact q4)), g.fresh, g.os, g.bare, w⟩)
    first
      | exact wpAny_bind (wpAny_pure (wpAny_bind last))
      | exact wpAny_bind last
  | @cons x c ts b bs p1 p2 hs2 l2 nm su tl ih =>
    intro w
    obtain ⟨t, ht, w⟩ := w
    refine wpAny_handleBy_cons (codeAny_handlers_test ?_) (by intro q; cases q)
    have SI := I3.suite he hd g.fresh oL oF
    have read : ∀ {Q : Value → Shared → Prop} {E : Value → Shared → Prop}, Q c s → wpAny (model X.prog X.w) (X.A.mark (some (.ref a))) (eval (.Name x p1) X.env) Q E s := fun {Q E} q => by
      obtain ⟨k1, k2, k3 | ⟨k3, k4, k5⟩⟩ := nm
      · exact ld_glob (X := X.suite a ((a, oe) :: (X.pn ++ pins))) SI k1 k3 q k2
      · exact ld_blt (X := X.suite a ((a, oe) :: (X.pn ++ pins))) SI k1 k3 k4 q k5 k2
    refine read ((PySem.W.exm_one (M := model X.prog X.w) I3.kIn lk ht).here ?_)
    cases t with
    | false => exact ih w
    | true =>
      refine codeAny_handlers_suite_as (HandSPX.lands_againZ g.fl fun h4 fl4 up4 => ?_)
      have I4 : Inv X pins σ H { s with heap := h4 } := g.inv.landed g.keep fl4.1 (g.up.trans up4) g.os g.bare
      obtain ⟨o4, vs4, he4, hz4, hd4⟩ := fl4.there
      refine store_ok (X := X.suite a ((a, o4) :: (X.pn ++ pins))) (v := .ref a) (I4.suite he4 hd4 g.fresh oL oF) hN hi (.inl hl) rfl (fun s5 I5 => ?_) (.inr hl)
      refine wpAny_mono ((su a o4 cls d (X.pn ++ pins) hz4 ⟨_, hd4⟩).run [] s5 _ H _ I5 (w a g.fresh)) (fun f s6 q6 => ?_) (fun _ _ z => False.elim z)
      have gone : ∀ {σ6 : L2.St} {H6 : Hp} {Q : Shared → Prop}, Inv (X.suite a ((a, o4) :: (X.pn ++ pins))) [] σ6 H6 s6 → (∀ s7, Inv X pins (σ6.set i none) H6 s7 → Q s7) → wpAny (model X.prog X.w) X.A (do bindName X.env n .none; unbindBehindTheSuite X.env n p2) (fun _ s7 => Q s7) X.xe s6 :=
        fun {σ6 H6 Q} I6 k => gone_ok (I6.unsuite I3.ok) hN hi hl k
      cases f with
      | ret u =>
        obtain ⟨v6, σ6, H6, I6, r6, z6⟩ := q6
        exact gone I6 fun s7 I7 => ⟨_, _, _, I7, r6, z6⟩
      | next =>
        obtain ⟨σ6, H6, I6, z6⟩ := q6
        exact gone I6 fun s7 I7 => ⟨_, _, I7, z6⟩
      | cont =>
        obtain ⟨σ6, H6, I6, z6⟩ := q6
        exact gone I6 fun s7 I7 => ⟨_, _, I7, z6⟩
      | brk =>
        obtain ⟨σ6, H6, I6, z6⟩ := q6
        exact gone I6 fun s7 I7 => ⟨_, _, I7, z6⟩
theorem ps_try_all {body : List Stmt} {h0 : ExceptHandler} {hds : List ExceptHandler} {l : List (Value × Suit)} {pos : Pos} {tb : WX → TS} {Wo : WX} (hs : X.stack = X.env :: X.outer) (hf : X.env.frame = some X.env.locals) (hN : X.N.Nodup) (hi : X.N[i]? = some n) (hl : X.env.kindOf n = some .local) (tk : Takes X Wo)
    (hb : ∀ W pn xe, Takes (X.tr pn xe) W → PassesOwn (model X.prog X.w) X.A X.env xe → PSs (X.tr pn xe) body (tb W)) (cl : Clauses X n (h0 :: hds) l) : PS X (.Try body (h0 :: hds) [] [] pos) (fun D σ H => tb (wAll X.K i Wo D l) D σ H) := by
  refine ⟨fun pins s σ H D I h => wpAny_Try_except ?_⟩
  have ok := I.ok
  refine wpAny_mono ((hb (wAll X.K i Wo D l) (X.pn ++ pins) (fun e z1 => wpAny (model X.prog X.w) X.A (noteFrame e X.env) (fun _ z2 => wpAny (model X.prog X.w) X.A (setFlight e none) (fun _ z3 => wpAny (model X.prog X.w) X.A (handleBy e X.env (h0 :: hds)) (SP X pins D) X.xe z3) X.xe z2) X.xe z1)
    (fun u z xx => ?_) PassesOwn.looking).run [] s σ H D (I.toTry _) h) (fun f z q => ?_) (fun e z he => he)
  · obtain ⟨a, B, sI, _, σ2, H2, cls, d, rfl, I2, nb, up, sky, na, os, ag, w⟩ := xx
    refine Sky.land Zc.steady (show X.A.frames = some (X.env :: X.outer) by rw [ok.frames, hs]) hf (by rw [← hs]; exact sky) fun h3 fl3 up3 => ?_
    exact ground_all (s := { z with heap := h3 }) hs hf hN hi hl tk (fun hc => ok.hd hc) ⟨I2.ofTry ok, nb, up.trans up3, fl3, na, os, ag⟩ cl w
  · cases f with
    | ret u =>
      obtain ⟨v, σ2, H2, I2, r, k⟩ := q
      exact ⟨v, σ2, H2, I2.ofTry ok, r, k⟩
    | next =>
      obtain ⟨σ2, H2, I2, k⟩ := q
      exact wpAny_execs_nil ⟨σ2, H2, I2.ofTry ok, k⟩
    | cont =>
      obtain ⟨σ2, H2, I2, k⟩ := q
      exact ⟨σ2, H2, I2.ofTry ok, k⟩
    | brk =>
      obtain ⟨σ2, H2, I2, k⟩ := q
      exact ⟨σ2, H2, I2.ofTry ok, k⟩
end
end Lk

set_option Elab.async false
set_option linter.all false
set_option maxRecDepth 100000
set_option maxHeartbeats 4000000
namespace Lk
open PySem L2
/-! ### calls by keywords alone, that may raise -/
theorem Vals.rev : ∀ {xs : List V} {us : List Value}, Vals xs us → Vals xs.reverse us.reverse
  | _, _, .nil => .nil
  | x :: xs, u :: us, .cons r t => by
    rw [List.reverse_cons, List.reverse_cons]
    exact (Vals.rev t).append (.cons r .nil)
/-- the keywords stand in the reverse order of the parameters -/
theorem kbn_rev {K : PySem.W.Frag} {x qual : Str} {st : Stmt} {f : Addr} {fd : FuncData} {ps ks : List Str} {n : Nat} (F : Fun K x qual st f fd)
    (h : ∀ (kV doc pm : Value) (an : Option Addr) (cdv ct : Value) (us ws : List Value), us.length = n → ws.length = ks.length → bindArgs (PySem.W.fnOf x qual (defArgs st) (defBody st) (defScope st) .none kV doc pm an cdv ct) ⟨us, ks.zip ws⟩ = pure (ps.zip (us ++ ws.reverse))) :
    KBn K fd ps n ks (fun us ws => us ++ ws.reverse) (fun vs zs => vs ++ zs.reverse) := by
  obtain ⟨oc, od, kV, doc, pm, an, cdv, ct, osl, rfl, lk, hcd⟩ := F.ex
  exact ⟨fun s us ws _ l1 l2 => .of_eq (h kV doc pm an cdv ct us ws l1 l2), fun r1 r2 => r1.append (Vals.rev r2)⟩
section
variable {X : Cx} {CX : CXT} {k : Nat} {f C : Addr} {fd : FuncData} {ps ks : List Str} {sp : Sp} {E : St → XK} {x : Str} {p pos : Pos} {kws : List Keyword} {tk : TA} {g : List Value → List Value → List Value} {gV : List V → List V → List V}
def tKw (sp : Sp) (gV : List V → List V → List V) (m : Nat) (E : St → XK) (tk : TA) : TE := fun σ H Q => tk σ H fun zs H2 => zs.length = m ∧ sp (gV [] zs) H2 Q (E σ)
def tMkKw (C : Addr) (sp : Sp) (gV : List V → List V → List V) (m : Nat) (E : St → XK) (tk : TA) : TE := fun σ H Q => tk σ H fun zs H2 => zs.length = m ∧ ∀ x dx, H2 x = none → H2 dx = none → dx ≠ x →
  sp (gV [.ref x] zs) (upd (upd H2 dx (.own x)) x (.ins C dx [])) (fun v H3 => v = .non ∧ Q (.ref x) H3) (E σ)
theorem pe_kw (G : FnOk X.prog X.w X.K X.mg X.base CX k f fd ps sp) (room : Room k X.A) (gx : Gl X x) (mx : X.mg x = some (.ref f)) (kp : PySem.W.keepIn X.K (.ref f) = true) (bd : KBn X.K fd ps 0 ks g gV) (out : ∀ σ, PassesAt CX X σ (E σ)) (args : PK X kws tk)
    (h1 : (backToKw pos (keywordEach kws X.env)).all (·.1.isSome) = true := by rfl) (h2 : (backToKw pos (keywordEach kws X.env)).filterMap (·.1) = ks := by rfl) (h3 : (x == ("__debug__" : Str)) = false := by decide)
    (h4 : ((backTo pos (starEach [] X.env)).any (·.1) || (backToKw pos (keywordEach kws X.env)).any (·.1.isNone)) = false := by rfl) : PE X (.Call (.Name x p) [] kws pos) (tKw sp gV ks.length E tk) := by
  refine ⟨fun pins s σ H Q I h => wpAny_Call_Name_kw (ld_glob I gx mx (PySem.W.callWith_KW0 (h₀ := X.base) I.ok.mod.kin kp h1 ?_ h4) h3)⟩
  refine thn (args.run pos pins s σ H _ I h) fun ws s2 ⟨zs, H2, I2, rz, hl, q2⟩ => ⟨I2.kIn, ?_⟩
  rw [h2]
  refine wpAny_call (codeAny_mono (G.run X.A X.stack s2 H2 ⟨[], ks.zip ws⟩ (g [] ws) (gV [] zs) Q (E σ) room I2.env0 (bd.to _ [] ws I2.kIn rfl (rz.length.symm.trans hl)) (bd.rel .nil rz) q2) fun r s3 q3 => ?_)
  match r, q3 with
  | .error e, q3 => exact out σ pins H2 s2 e s3 I2 q3
  | .ok (.ret u), q3 => exact I2.after q3
  | .ok .next, q3 => exact q3.elim
  | .ok .brk, q3 => exact q3.elim
  | .ok .cont, q3 => exact q3.elim
theorem pe_mkKw (M : Mk X.K C f) (G : FnOk X.prog X.w X.K X.mg X.base CX k f fd ps sp) (room : Room (k + 1) X.A) (gx : Gl X x) (mx : X.mg x = some (.ref C)) (bd : KBn X.K fd ps 1 ks g gV) (out : ∀ σ, PassesAt CX X σ (E σ)) (args : PK X kws tk)
    (h1 : (backToKw pos (keywordEach kws X.env)).all (·.1.isSome) = true := by rfl) (h2 : (backToKw pos (keywordEach kws X.env)).filterMap (·.1) = ks := by rfl) (h3 : (x == ("__debug__" : Str)) = false := by decide)
    (h4 : ((backTo pos (starEach [] X.env)).any (·.1) || (backToKw pos (keywordEach kws X.env)).any (·.1.isNone)) = false := by rfl) : PE X (.Call (.Name x p) [] kws pos) (tMkKw C sp gV ks.length E tk) := by
  refine ⟨fun pins s σ H Q I h => wpAny_Call_Name_kw (ld_glob I gx mx (PySem.W.callWith_KW0 (h₀ := X.base) I.ok.mod.kin M.kp h1 ?_ h4) h3)⟩
  refine thn (args.run pos pins s σ H _ I h) fun ws s2 ⟨zs, H2, I2, rz, hl, q2⟩ => ⟨I2.kIn, ?_⟩
  rw [h2]
  have q := q2 (s2.heap.objs.size + 1) s2.heap.objs.size (I2.hok.fresh (Nat.le_succ _)) (I2.hok.fresh (Nat.le_refl _)) (Nat.ne_of_lt (Nat.lt_succ_self _))
  have I3 := I2.made (C := C)
  have r3 := bd.rel (Paired.cons (show RelV (V.ref (s2.heap.objs.size + 1)) (Value.ref (s2.heap.objs.size + 1)) from rfl) .nil) rz
  refine wpAny_call (make_map (f := f) I2.kIn M.makes M.init (beq_iff_eq.mp M.fn) (codeAny_mono (G.run _ X.stack _ _ ⟨[.ref (s2.heap.objs.size + 1)], ks.zip ws⟩ _ _ _ (E σ) (room.make C [] (ks.zip ws)) (I3.env0.make C [] (ks.zip ws)) (bd.to _ [.ref (s2.heap.objs.size + 1)] ws I3.kIn rfl (rz.length.symm.trans hl)) r3 q) fun r s3 q3 => ?_))
  match r, q3 with
  | .error e, q3 => exact out σ pins _ _ e s3 I3 q3
  | .ok (.ret u), q3 =>
    obtain ⟨v, H4, I4, rv, ⟨rfl, k4⟩⟩ := I3.after q3
    exact ⟨rv, V.ref (s2.heap.objs.size + 1), H4, I4, rfl, k4⟩
  | .ok .next, q3 => exact q3.elim
  | .ok .brk, q3 => exact q3.elim
  | .ok .cont, q3 => exact q3.elim
end
def resV : Option Int → V
  | some k => .int k
  | none => .non
def spRefused : Sp := fun vs H Q _ => ∃ (x y : V) (dc ds : PyData), vs = [x, y] ∧ Dv H x dc ∧ Dv H y ds ∧ (itemsD ds).length ≤ 1000 ∧ (∀ e ∈ itemsD ds, (itemsD e).length ≤ 1000) ∧ ∀ H', Same H H' → Q (resV (makeRes dc ds)) H'
/-- what the top says of the class Machine's making -/
structure McT (K : PySem.W.Frag) (mg : Str → Option Value) (CM fI : Addr) (fdI : FuncData) : Prop where
  mM : Mk K CM fI
  g : mg "Machine" = some (.ref CM)
  b : Binds K fdI P_Machine___init []
  k : KBn K fdI P_Machine___init 1 ["steps", "commands"] (fun us ws => us ++ ws.reverse) (fun vs zs => vs ++ zs.reverse)
section
variable {P : Program} {w : World} {K : PySem.W.Frag} {mg : Str → Option Value} {base : Heap} {CM CR CE CW : Addr}
end
end Lk

set_option Elab.async false
set_option linter.all false
set_option maxRecDepth 100000
set_option maxHeartbeats 4000000
namespace Lk
open PySem L2
theorem op_mul_str {X : Cx} : OpR X (binaryOp .Mult) (fun x y H Q => ∃ (z : Str) (n : Int), x = .str z ∧ y = .int n ∧ MulOk z n ∧ Q (.str (Txt.mul z n)) H) := by
  intro pins s σ H x y v u Q I rx ry h
  obtain ⟨z, n, rfl, rfl, ok, q⟩ := h
  obtain ⟨t, rfl⟩ := rx
  obtain ⟨t', rfl⟩ := ry
  exact SB.mul ok fun t2 k => ⟨.str _, H, I.tok _, ⟨_, rfl⟩, q⟩
theorem cut_to {xs : List V} {n : Nat} (h : n ≤ xs.length) : cutV xs none (some (n : Int)) = xs.take n := by
  have e1 : HT.sIx xs.length 0 none = 0 := rfl
  have e2 : HT.sIx xs.length xs.length (some (n : Int)) = n := by
    show (if (n : Int) < 0 then ((n : Int) + ((xs.length : Nat) : Int)).toNat else min (n : Int).toNat xs.length) = n
    rw [if_neg (by omega), Int.toNat_natCast, Nat.min_eq_left h]
  unfold cutV
  rw [e1, e2, List.drop_zero, Nat.sub_zero]
theorem cut_from {xs : List V} {n : Nat} (h : n ≤ xs.length) : cutV xs (some (n : Int)) none = xs.drop n := by
  have e1 : HT.sIx xs.length xs.length none = xs.length := rfl
  have e2 : HT.sIx xs.length 0 (some (n : Int)) = n := by
    show (if (n : Int) < 0 then ((n : Int) + ((xs.length : Nat) : Int)).toNat else min (n : Int).toNat xs.length) = n
    rw [if_neg (by omega), Int.toNat_natCast, Nat.min_eq_left h]
  unfold cutV
  rw [e1, e2, List.take_of_length_le (by rw [List.length_drop]; exact Nat.le_refl _)]
/-- one of six, of five, of three -/
theorem pick6 {a b c d e f v : V} {i : Nat} {P : V → Prop} (h : [a, b, c, d, e, f][i]? = some v) (ha : P a) (hb : P b) (hc : P c) (hd : P d) (he : P e) (hf : P f) : P v := by
  match i, h with
  | 0, h => exact (Option.some.inj h) ▸ ha
  | 1, h => exact (Option.some.inj h) ▸ hb
  | 2, h => exact (Option.some.inj h) ▸ hc
  | 3, h => exact (Option.some.inj h) ▸ hd
  | 4, h => exact (Option.some.inj h) ▸ he
  | 5, h => exact (Option.some.inj h) ▸ hf
  | n + 6, h => simp at h
theorem pick5 {a b c d e v : V} {i : Nat} {P : V → Prop} (h : [a, b, c, d, e][i]? = some v) (ha : P a) (hb : P b) (hc : P c) (hd : P d) (he : P e) : P v := by
  match i, h with
  | 0, h => exact (Option.some.inj h) ▸ ha
  | 1, h => exact (Option.some.inj h) ▸ hb
  | 2, h => exact (Option.some.inj h) ▸ hc
  | 3, h => exact (Option.some.inj h) ▸ hd
  | 4, h => exact (Option.some.inj h) ▸ he
  | n + 5, h => simp at h
theorem pick3 {a b c v : V} {i : Nat} {P : V → Prop} (h : [a, b, c][i]? = some v) (ha : P a) (hb : P b) (hc : P c) : P v := by
  match i, h with
  | 0, h => exact (Option.some.inj h) ▸ ha
  | 1, h => exact (Option.some.inj h) ▸ hb
  | 2, h => exact (Option.some.inj h) ▸ hc
  | n + 3, h => simp at h
theorem badAt_at {A n : Int} {e : PyData} (he : isE A n e = false) : ∀ {pre post : List PyData} {i : Nat}, (∀ d ∈ pre, isE A n d = true) → badAt A n (pre ++ e :: post) i = some (i + pre.length)
  | [], _, _, _ => by
    show badAt A n (e :: _) _ = _
    rw [badAt_cons, if_neg (by rw [he]; decide)]
    rfl
  | d :: pre, post, i, h => by
    show badAt A n (d :: (pre ++ e :: post)) i = _
    rw [badAt_cons, if_pos (h d List.mem_cons_self), badAt_at he fun x hx => h x (List.mem_cons_of_mem _ hx), List.length_cons]
    congr 1
    omega
/-- an entry in the middle is wrong -/
theorem stepsRes_at {A : Nat} {rs : List (List Int)} {i : Nat} {e : PyData} (x : Rs A rs) (hi : i < rs.length) (he : isE A (rs.length : Int) e = false) : stepsRes A (.list ((rs.take i).map lstP ++ e :: (rs.drop (i + 1)).map lstP)) = some (2 + (i : Int)) := by
  have hl : ((rs.take i).map lstP ++ e :: (rs.drop (i + 1)).map lstP).length = rs.length := by
    rw [List.length_append, List.length_cons, List.length_map, List.length_map, List.length_take, List.length_drop]
    omega
  unfold stepsRes
  rw [if_neg (fun q => q.elim (fun e => by cases e) fun e => by
    have e' : ((rs.take i).map lstP ++ _ :: (rs.drop (i + 1)).map lstP) = [] := e
    simp at e')]
  have e0 : itemsD (.list ((rs.take i).map lstP ++ e :: (rs.drop (i + 1)).map lstP)) = (rs.take i).map lstP ++ e :: (rs.drop (i + 1)).map lstP := rfl
  rw [e0, hl, badAt_at he (fun d hd => by
    obtain ⟨r, hr, rfl⟩ := List.mem_map.mp hd
    exact isE_lst (x.row r (List.mem_of_mem_take hr))), List.length_map, List.length_take, Nat.min_eq_left (by omega)]
  show some (2 + ((0 + i : Nat) : Int)) = _
  rw [Nat.zero_add]
theorem makeRes_row {A : Nat} {rs : List (List Int)} {i : Nat} {e : PyData} (hA : 0 < A) (x : Rs A rs) (hi : i < rs.length) (he : isE A (rs.length : Int) e = false) : makeRes (.int A) (.list ((rs.take i).map lstP ++ e :: (rs.drop (i + 1)).map lstP)) = some (2 + (i : Int)) := by
  unfold makeRes
  rw [if_neg (by
    show ¬ decide ((A : Int) ≤ 0) = true
    rw [decide_eq_false (by omega)]
    decide)]
  exact stepsRes_at x hi he
def spWrong : Sp := fun vs H Q _ => ∃ (d l a : Addr) (A : Nat) (ts : List (Addr × List Int)), vs = [.ref d, .int (A : Int), .ref a] ∧ DealAt H d l ∧ GridAt H a ts ∧ ¬ dl d l a ∧ (∀ t ∈ ts, ¬ dl d l t.1) ∧ RowsOk A ts ∧ 0 < A ∧ A ≤ 5 ∧ ts.length ≤ 100 ∧
  ∀ (H' : Hp) (t : Addr) (x y : V) (dc ds : PyData) (n : Int), DealAt H' d l → SB d l H H' → H' t = some (.tup [x, y, .int n]) → Dv H' x dc → Dv H' y ds → (itemsD ds).length ≤ 1000 → (∀ e ∈ itemsD ds, (itemsD e).length ≤ 1000) → makeRes dc ds = some n → Q (.ref t) H'
theorem DvAll.set {H : Hp} {v : V} {e : PyData} (De : Dv H v e) : ∀ {xs : List V} {ds : List PyData} {i : Nat}, DvAll H xs ds → DvAll H (xs.set i v) (ds.set i e)
  | _, _, _, .nil => .nil
  | _, _, 0, .cons _ t => .cons De t
  | _, _, _ + 1, .cons h t => .cons h (DvAll.set De t)
theorem all_set_false {p : PyData → Bool} {e : PyData} : ∀ {ds : List PyData} {i : Nat}, i < ds.length → p e = false → (ds.set i e).all p = false
  | [], _, h, _ => by simp at h
  | d :: ds, 0, _, he => by
    show (p e && ds.all p) = false
    rw [he, Bool.false_and]
  | d :: ds, i + 1, h, he => by
    show (p d && (ds.set i e).all p) = false
    rw [all_set_false (Nat.lt_of_succ_lt_succ h) he, Bool.and_false]
theorem dvAll_append {H : Hp} : ∀ {xs ys : List V} {ds es : List PyData}, DvAll H xs ds → DvAll H ys es → DvAll H (xs ++ ys) (ds ++ es)
  | _, _, _, _, .nil, k => k
  | _, _, _, _, .cons h t, k => .cons h (dvAll_append t k)
theorem dv_mid {H : Hp} {ts : List (Addr × List Int)} {i : Nat} {v : V} {e : PyData} {p : Addr} (rows : ∀ t ∈ ts, H t.1 = some (.lst (t.2.map V.int))) (De : Dv H v e) (hp : H p = some (.lst ((ts.map fun t => V.ref t.1).take i ++ [v] ++ (ts.map fun t => V.ref t.1).drop (i + 1)))) :
    Dv H (.ref p) (.list (((rsOf ts).take i).map lstP ++ e :: ((rsOf ts).drop (i + 1)).map lstP)) := by
  refine .lst hp ?_
  have e1 : (rsOf ts).take i = rsOf (ts.take i) := by
    unfold rsOf
    rw [List.map_take]
  have e2 : (rsOf ts).drop (i + 1) = rsOf (ts.drop (i + 1)) := by
    unfold rsOf
    rw [List.map_drop]
  rw [e1, e2, ← List.map_take, ← List.map_drop, List.append_assoc]
  exact dvAll_append (dv_rowsL fun t ht => rows t (List.mem_of_mem_take ht)) (.cons De (dv_rowsL fun t ht => rows t (List.mem_of_mem_drop ht)))
theorem size_mid {rs : List (List Int)} {i : Nat} {e : PyData} (hi : i < rs.length) (hz : rs.length ≤ 1000) (he : (itemsD e).length ≤ 1000) (hr : ∀ r ∈ rs, r.length ≤ 1000) :
    (itemsD (.list ((rs.take i).map lstP ++ e :: (rs.drop (i + 1)).map lstP))).length ≤ 1000 ∧ ∀ q ∈ itemsD (.list ((rs.take i).map lstP ++ e :: (rs.drop (i + 1)).map lstP)), (itemsD q).length ≤ 1000 := by
  have e0 : itemsD (.list ((rs.take i).map lstP ++ e :: (rs.drop (i + 1)).map lstP)) = (rs.take i).map lstP ++ e :: (rs.drop (i + 1)).map lstP := rfl
  rw [e0]
  have hrow : ∀ r ∈ rs, (itemsD (lstP r)).length ≤ 1000 := fun r hr' => by
    show (r.map PyData.int).length ≤ 1000
    rw [List.length_map]
    exact hr r hr'
  refine ⟨?_, fun q hq => ?_⟩
  · rw [List.length_append, List.length_cons, List.length_map, List.length_map, List.length_take, List.length_drop]
    omega
  · rcases List.mem_append.mp hq with h | h
    · obtain ⟨r, hr', rfl⟩ := List.mem_map.mp h
      exact hrow r (List.mem_of_mem_take hr')
    · rcases List.mem_cons.mp h with h | h
      · rw [h]
        exact he
      · obtain ⟨r, hr', rfl⟩ := List.mem_map.mp h
        exact hrow r (List.mem_of_mem_drop hr')
section
variable {P : Program} {w : World} {K : PySem.W.Frag} {mg : Str → Option Value} {base : Heap}
end
end Lk

set_option Elab.async false
set_option linter.all false
set_option maxRecDepth 100000
set_option maxHeartbeats 4000000
namespace Lk
open PySem L2
theorem rows_of {F : List Int → List Int} {ts us : List (Addr × List Int)} (hl : us.length = ts.length) (h : ∀ (i : Nat) t, us[i]? = some t → ∃ u, ts[i]? = some u ∧ t.2 = F u.2) : rsOf us = (rsOf ts).map F := by
  refine List.ext_getElem? fun k => ?_
  rw [List.getElem?_map]
  cases hk : us[k]? with
  | none =>
    have q1 : us.length ≤ k := List.getElem?_eq_none_iff.mp hk
    have q2 : (rsOf ts)[k]? = none := List.getElem?_eq_none_iff.mpr (by rw [rsOf_len]; omega)
    have q3 : (rsOf us)[k]? = none := List.getElem?_eq_none_iff.mpr (by rw [rsOf_len]; exact q1)
    rw [q2, q3] <;> rfl
  | some t =>
    obtain ⟨u, hu, e⟩ := h k t hk
    rw [rsOf_get hk, rsOf_get hu, e] <;> rfl
section
variable {K : PySem.W.Frag} {j : Nat} {te : TE} {σ : St} {H1 : Hp} {D : Addr} {Qd : Hp → Prop} {d l : Addr}
/-- rows made of a list's rows, in new lists -/
theorem lcF {a : Addr} {ts : List (Addr × List Int)} (F : List Int → List Int) (hD : H1 D = none) (hI : DealAt H1 d l) (G : GridAt H1 a ts) (na : ¬ dl d l a) (nt : ∀ t ∈ ts, ¬ dl d l t.1) (hn : ts.length ≤ 1000)
    (hs : ∀ u ∈ ts, ∀ H, DealAt H d l → SB d l H1 H → H u.1 = some (.lst (u.2.map V.int)) → ∀ Q : VK, (∀ b, H b = none → Q (.ref b) (upd H b (.lst ((F u.2).map V.int)))) → te ((wipe σ [j]).set j (some (.ref u.1))) H Q)
    (hd : ∀ us H', rsOf us = (rsOf ts).map F → NewG H1 D us → GridAt H' D us → DealAt H' d l → SB d l H1 H' → Qd H') :
    ∃ W : Nat → Nat → Hp → Prop, (∃ m, W 0 m (upd H1 D (.lst []))) ∧ ∀ i m H, W i m H →
      ((Itl K a).stop i H ∧ Qd H) ∨ ((Itl K a).go i H ∧ ∃ Nx : Hp → Prop, (∀ H', Nx H' → ∃ m', m' < m ∧ W (i + 1) m' H') ∧ ∀ x H', (Itl K a).yld i H x H' → gName j x (wipe σ [j]) H' fun σ2 H2 => wipe σ2 [j] = wipe σ [j] ∧ tYes σ2 H2 fun b H3 =>
        if b = true then te σ2 H3 fun y H4 => ∃ acc, H4 D = some (.lst acc) ∧ acc.length < sizeLine ∧ Nx (upd H4 D (.lst (acc ++ [y]))) else Nx H3) := by
  refine lcGL (K := K) (a := a) (xs := ts.map fun t => V.ref t.1) (fun i r => ∃ u, ts[i]? = some u ∧ r = F u.2) hD hI (by rw [List.length_map]; omega) (fun H3 k3 => SqL.of (k3.kp.get na G.top)) (fun i x H3 hi x3 k3 Q3 kQ => ?_) (fun us H3 hl hz hN hG x3 k3 => ?_)
  · rw [List.getElem?_map] at hi
    obtain ⟨u, hu, rfl⟩ : ∃ u, ts[i]? = some u ∧ V.ref u.1 = x := by
      cases e : ts[i]? with
      | none => rw [e] at hi; cases hi
      | some u => rw [e] at hi; exact ⟨u, rfl, Option.some.inj hi⟩
    have hm := mem_of_get hu
    exact hs u hm H3 x3 k3 (k3.kp.get (nt u hm) (G.row u hm)) Q3 fun b hb => kQ b (F u.2) _ (x3.new hb) (SB.new hb) hb upd_same ⟨u, hu, rfl⟩
  · rw [List.length_map] at hl
    exact hd us H3 (rows_of hl hz) hN hG x3 k3
/-- what is made in new tuples -/
theorem lcFT {a : Addr} {ts : List (Addr × List Int)} (hD : H1 D = none) (hI : DealAt H1 d l) (G : GridAt H1 a ts) (na : ¬ dl d l a) (nt : ∀ t ∈ ts, ¬ dl d l t.1) (hn : ts.length ≤ 1000)
    (hs : ∀ u ∈ ts, ∀ H, DealAt H d l → SB d l H1 H → H u.1 = some (.lst (u.2.map V.int)) → ∀ Q : VK, (∀ b, H b = none → Q (.ref b) (upd H b (.tup (u.2.map V.int)))) → te ((wipe σ [j]).set j (some (.ref u.1))) H Q)
    (hd : ∀ (us : List (Addr × List Int)) H', rsOf us = rsOf ts → H' D = some (.lst (us.map fun u => V.ref u.1)) → (∀ u ∈ us, H' u.1 = some (.tup (u.2.map V.int))) → (∀ u ∈ us, u.1 ≠ D) → DealAt H' d l → SB d l H1 H' → Qd H') :
    ∃ W : Nat → Nat → Hp → Prop, (∃ m, W 0 m (upd H1 D (.lst []))) ∧ ∀ i m H, W i m H →
      ((Itl K a).stop i H ∧ Qd H) ∨ ((Itl K a).go i H ∧ ∃ Nx : Hp → Prop, (∀ H', Nx H' → ∃ m', m' < m ∧ W (i + 1) m' H') ∧ ∀ x H', (Itl K a).yld i H x H' → gName j x (wipe σ [j]) H' fun σ2 H2 => wipe σ2 [j] = wipe σ [j] ∧ tYes σ2 H2 fun b H3 =>
        if b = true then te σ2 H3 fun y H4 => ∃ acc, H4 D = some (.lst acc) ∧ acc.length < sizeLine ∧ Nx (upd H4 D (.lst (acc ++ [y]))) else Nx H3) := by
  have nD : ¬ dl d l D := hI.free hD
  refine lcL (K := K) (a := a) (xs := ts.map fun t => V.ref t.1) (dl d l) (fun H => DealAt H d l) (fun i y H' => ∃ t : Addr × List Int, y = V.ref t.1 ∧ H1 t.1 = none ∧ t.1 ≠ D ∧ H' t.1 = some (.tup (t.2.map V.int)) ∧ ∃ u, ts[i]? = some u ∧ t.2 = u.2) hD nD (by rw [List.length_map]; omega) hI (fun H o x => x.upd nD)
    (fun i y H H' k ⟨t, e, h1, h2, h3, h4⟩ => ⟨t, e, h1, h2, k.get (fun q => q.elim (hI.free h1) h2) h3, h4⟩) (fun H k => SqL.of (k.get na G.top)) (fun i x H acc hi x3 k3 hDa Q kQ => ?_) (fun ys H' hl hf hD' x3 k3 => ?_)
  · rw [List.getElem?_map] at hi
    obtain ⟨u, hu, rfl⟩ : ∃ u, ts[i]? = some u ∧ V.ref u.1 = x := by
      cases e : ts[i]? with
      | none => rw [e] at hi; cases hi
      | some u => rw [e] at hi; exact ⟨u, rfl, Option.some.inj hi⟩
    have hm := mem_of_get hu
    refine hs u hm H x3 k3.sb (k3.get (nt u hm) (G.row u hm)) Q fun b hb => kQ _ _ (x3.new hb) (KP.new hb) ⟨(b, u.2), rfl, k3.free (x3.free hb) hb, fun e => ?_, upd_same, u, hu, rfl⟩
    have e' : b = D := e
    rw [e', hDa] at hb
    cases hb
  · obtain ⟨us, rfl, ht⟩ := collect (g := fun u : Addr × List Int => V.ref u.1) hf
    rw [List.length_map, List.length_map] at hl
    have hm : ∀ t ∈ us, t.1 ≠ D ∧ H' t.1 = some (.tup (t.2.map V.int)) := fun t h => by
      obtain ⟨i, hi⟩ := List.getElem?_of_mem h
      exact ⟨(ht i t hi).2.1, (ht i t hi).2.2.1⟩
    refine hd us H' ?_ hD' (fun u hu => (hm u hu).2) (fun u hu => (hm u hu).1) x3 k3.sb
    have e := rows_of (F := id) hl fun i t hi => (ht i t hi).2.2.2
    rw [e, List.map_id]
/-- over enumerate of a list, into the slots i and j -/
theorem lcE {i j : Nat} {a : Addr} {xs : List V} (S : Addr → Prop) (I : Hp → Prop) (f : Nat → V → Hp → Prop) (hD : H1 D = none) (hS : ¬ S D) (hn : xs.length ≤ 1000000) (hI : I H1) (mI : ∀ H p o, ¬ S p → I H → I (upd H p o)) (fr : ∀ H p, I H → H p = none → ¬ S p)
    (mf : ∀ i y H H', KP (fun a => S a ∨ a = D) H H' → f i y H → f i y H') (ha : ∀ H, KP S H1 H → SqL K H a xs) (hw : ∀ x y : V, wipe (((wipe σ [i, j]).set i (some x)).set j (some y)) [i, j] = wipe σ [i, j])
    (hs : ∀ k x H acc, xs[k]? = some x → I H → KP S H1 H → H D = some (.lst acc) → ∀ Q : VK, (∀ y H4, I H4 → KP S H H4 → f k y H4 → Q y H4) → te (((wipe σ [i, j]).set i (some (.int (k : Int)))).set j (some x)) H Q)
    (hd : ∀ ys H', ys.length = xs.length → (∀ i y, ys[i]? = some y → f i y H') → H' D = some (.lst ys) → I H' → KP S H1 H' → Qd H') :
    ∃ W : Nat → Nat → Hp → Prop, (∃ m, W 0 m (upd H1 D (.lst []))) ∧ ∀ k m H, W k m H →
      ((Ite K a).stop k H ∧ Qd H) ∨ ((Ite K a).go k H ∧ ∃ Nx : Hp → Prop, (∀ H', Nx H' → ∃ m', m' < m ∧ W (k + 1) m' H') ∧ ∀ x H', (Ite K a).yld k H x H' → gTup K 2 (gCons (gName i) (gCons (gName j) gNil)) x (wipe σ [i, j]) H' fun σ2 H2 => wipe σ2 [i, j] = wipe σ [i, j] ∧ tYes σ2 H2 fun b H3 =>
        if b = true then te σ2 H3 fun y H4 => ∃ acc, H4 D = some (.lst acc) ∧ acc.length < sizeLine ∧ Nx (upd H4 D (.lst (acc ++ [y]))) else Nx H3) := by
  refine ⟨fun k m H => m = xs.length - k ∧ k ≤ xs.length ∧ Lcp S I f H1 D k H, ⟨xs.length, rfl, Nat.zero_le _, Lcp.zero hD (fun H o x => mI H D o hS x) hI⟩, ?_⟩
  rintro k m H ⟨rfl, hk, p⟩
  have qa := ha H p.2.1
  by_cases hlt : k < xs.length
  · have ga : xs[k]? = some xs[k] := List.getElem?_eq_getElem hlt
    refine .inr ⟨⟨xs, _, qa, ga⟩, fun H => Lcp S I f H1 D (k + 1) H, fun H' q => ⟨xs.length - (k + 1), by omega, rfl, hlt, q⟩, ?_⟩
    rintro v H' ⟨T, x, rfl, hT, rfl, f1⟩
    have ex := f1 _ qa
    rw [ga] at ex
    obtain rfl := Option.some.inj ex
    have nT := fr _ _ p.1 hT
    have hTD : T ≠ D := fun e => by
      obtain ⟨_, _, ys, e2, _⟩ := p
      rw [e, e2] at hT
      cases hT
    obtain ⟨p1, p2, ys, e, hl, hf⟩ := p
    have pT : Lcp S I f H1 D k (upd H T (.tup [V.int (k : Int), xs[k]])) := ⟨mI _ _ _ nT p1, p2.trans (KP.new hT), ys, (upd_ne (Ne.symm hTD)).trans e, hl, fun i y hy => mf _ _ _ _ (KP.new hT) (hf i y hy)⟩
    refine ⟨T, _, rfl, SqT.of upd_same, rfl, _, _, rfl, _, _, rfl, rfl, hw _ _, iteT (B := Lcp S I f H1 D (k + 1) (upd H T (.tup [V.int (k : Int), xs[k]]))) ?_⟩
    exact hs k _ _ ys ga pT.1 pT.2.1 ((upd_ne (Ne.symm hTD)).trans e) _ fun y H4 h1 h2 h3 => pT.step hD hS (fun H o x => mI H D o hS x) mf (by omega) h1 h2 h3
  · have e : k = xs.length := by omega
    subst e
    obtain ⟨p1, p2, ys, e, hl, hf⟩ := p
    exact .inl ⟨⟨_, qa, Nat.le_refl _⟩, hd ys H hl hf e p1 p2⟩
end
end Lk

set_option Elab.async false
set_option linter.all false
set_option maxRecDepth 100000
set_option maxHeartbeats 4000000
namespace Lk
open PySem L2
/-- a deal, a drawn machine's data in lists, and a machine made of it -/
structure Game (CM : Addr) (H : Hp) (d l a m : Addr) (A : Nat) (ts us : List (Addr × List Int)) : Prop where
  D : DealAt H d l
  G : GridAt H a ts
  na : ¬ dl d l a
  nt : ∀ t ∈ ts, ¬ dl d l t.1
  R : RowsOk A ts
  A0 : 0 < A
  A5 : A ≤ 5
  hz : ts.length ≤ 100
  M : MachAt CM H m A us
  e : rsOf us = rsOf ts
theorem Game.go {CM : Addr} {H H' : Hp} {d l a m : Addr} {A : Nat} {ts us : List (Addr × List Int)} (g : Game CM H d l a m A ts us) (D' : DealAt H' d l) (S : SB d l H H') : Game CM H' d l a m A ts us :=
  ⟨D', g.G.kp S.kp g.na g.nt, g.na, g.nt, g.R, g.A0, g.A5, g.hz, g.M.nl (NL.of_sb S g.D), g.e⟩
theorem Game.new {CM : Addr} {H : Hp} {d l a m p : Addr} {o : HO} {A : Nat} {ts us : List (Addr × List Int)} (g : Game CM H d l a m A ts us) (h : H p = none) : Game CM (upd H p o) d l a m A ts us :=
  g.go (g.D.new h) (SB.new h)
theorem Game.same {CM : Addr} {H H' : Hp} {d l a m : Addr} {A : Nat} {ts us : List (Addr × List Int)} (g : Game CM H d l a m A ts us) (S : Same H H') : Game CM H' d l a m A ts us := by
  obtain ⟨bs, b, x⟩ := g.D
  exact g.go ⟨bs, b, S _ _ x.hd, S _ _ x.hl, x.pos, x.len, x.b0, x.b1⟩ (KP.same S).sb
theorem Game.rows {CM : Addr} {H : Hp} {d l a m : Addr} {A : Nat} {ts us : List (Addr × List Int)} (g : Game CM H d l a m A ts us) : Rs A (rsOf ts) := g.R.rs
theorem DealAt.same {H H' : Hp} {d l : Addr} (x : DealAt H d l) (S : Same H H') : DealAt H' d l := by
  obtain ⟨bs, b, x⟩ := x
  exact ⟨bs, b, S _ _ x.hd, S _ _ x.hl, x.pos, x.len, x.b0, x.b1⟩
/-- what the top says of == of the class -/
structure EqT (P : Program) (w : World) (K : PySem.W.Frag) (mg : Str → Option Value) (base : Heap) (CM fE : Addr) (fdE : FuncData) : Prop where
  G : FnOk P w K mg base CX0 1 fE fdE P_Machine___eq (spEqM CM)
  b : Binds K fdE P_Machine___eq []
  T : TxE K mg CM fE
theorem stepsRes_first {A : Int} {ds : List PyData} {i : Nat} {e : PyData} (hi : ds[i]? = some e) (he : isE A (ds.length : Int) e = false) (h : ∀ d ∈ ds.take i, isE A (ds.length : Int) d = true) : stepsRes A (.list ds) = some (2 + (i : Int)) := by
  have hlt := cases_list hi
  have e1 : ds = ds.take i ++ e :: ds.drop (i + 1) := by
    rw [← drop_get hi, List.take_append_drop]
  have e0 : itemsD (.list ds) = ds := rfl
  unfold stepsRes
  rw [if_neg (fun q => q.elim (fun e => by cases e) fun e => by
    have e' : ds = [] := e
    rw [e'] at hlt
    simp at hlt), e0]
  have e2 : badAt A (ds.length : Int) ds 0 = some i := by
    have q : badAt A (ds.length : Int) (ds.take i ++ e :: ds.drop (i + 1)) 0 = some (0 + (ds.take i).length) := badAt_at he h
    rw [← e1, List.length_take, Nat.min_eq_left (by omega), Nat.zero_add] at q
    exact q
  rw [e2] <;> rfl
theorem dvAll_of {H : Hp} : ∀ {xs : List V} {ds : List PyData}, xs.length = ds.length → (∀ (k : Nat) y, xs[k]? = some y → ∃ d, ds[k]? = some d ∧ Dv H y d) → DvAll H xs ds
  | [], [], _, _ => .nil
  | [], _ :: _, h, _ => by simp at h
  | _ :: _, [], h, _ => by simp at h
  | x :: xs, d :: ds, h, f => by
    obtain ⟨d', e, Dx⟩ := f 0 x rfl
    have e' : d = d' := Option.some.inj e
    rw [← e'] at Dx
    exact .cons Dx (dvAll_of (Nat.succ.inj h) fun k y hk => f (k + 1) y hk)
theorem zero_rows {A : Nat} {rs : List (List Int)} (x : Rs A rs) (h : rs.length = 1) : rs = [List.replicate A 0] := by
  match rs, h with
  | [r], _ =>
    obtain ⟨h1, h2⟩ := x.row r List.mem_cons_self
    have e : r = List.replicate A 0 := List.eq_replicate_iff.mpr ⟨h1, fun z hz => by
      have := h2 z hz
      simp at this
      omega⟩
    rw [e]
theorem makeRes_int {A : Nat} {ds : PyData} (h : 0 < A) : makeRes (.int (A : Int)) ds = stepsRes (A : Int) ds := by
  unfold makeRes
  rw [if_neg (by
    show ¬ decide ((A : Int) ≤ 0) = true
    rw [decide_eq_false (by omega)]
    decide)]
  rfl
def spUnlike (CM : Addr) : Sp := fun vs H Q _ => ∃ (d l a m : Addr) (A : Nat) (ts us : List (Addr × List Int)), vs = [.ref d, .int (A : Int), .ref a, .ref m] ∧ Game CM H d l a m A ts us ∧ ∀ H', DealAt H' d l → SB d l H H' → Q (.bl true) H'
/-- a machine of rows in lists is made -/
theorem make_rows {CM CE : Addr} {H1 : Hp} {a : Addr} {A : Nat} {ts : List (Addr × List Int)} {Q : Addr → Hp → Prop} {E : XK} (hA : 0 < A) (h5 : A ≤ 1000) (G : GridAt H1 a ts) (R : Rs A (rsOf ts)) (hz : ts.length ≤ 1000)
    (h : ∀ H' m us, Same H1 H' → H1 m = none → MachAt CM H' m (A : Int) us → rsOf us = rsOf ts → Q m H') :
    ∀ x0 dx, H1 x0 = none → H1 dx = none → dx ≠ x0 → spInit CM CE (.ref x0 :: ([.int (A : Int), .ref a] ++ [])) (upd (upd H1 dx (.own x0)) x0 (.ins CM dx [])) (fun v H2 => v = .non ∧ Q x0 H2) E := by
  refine make_any (dc := .int (A : Int)) (ds := .list ((rsOf ts).map lstP)) (.int _) (.lst G.top (dv_rowsL G.row)) ?_ (fun e he => ?_) ?_
  · show ((rsOf ts).map lstP).length ≤ 1000
    rw [List.length_map, rsOf_len]
    exact hz
  · obtain ⟨r, hr, rfl⟩ := List.mem_map.mp he
    show (r.map PyData.int).length ≤ 1000
    rw [List.length_map, (R.row r hr).1]
    exact h5
  · have e : makeRes (.int (A : Int)) (.list ((rsOf ts).map lstP)) = none := by
      unfold makeRes
      rw [if_neg (by
        show ¬ decide ((A : Int) ≤ 0) = true
        rw [decide_eq_false (by omega)]
        decide)]
      exact stepsRes_rows (A := A) (g := lstP) rfl rfl (fun n r h => isE_lst h) R
    rw [e]
    refine fun H' m us S hm M eR => h H' m us S hm M ?_
    rw [eR]
    exact map_rowD rowD_lst _
section
variable {P : Program} {w : World} {K : PySem.W.Frag} {mg : Str → Option Value} {base : Heap} {CM CE fI fE : Addr} {fdI fdE : FuncData}
end
end Lk

set_option Elab.async false
set_option linter.all false
set_option maxRecDepth 100000
set_option maxHeartbeats 4000000
namespace Lk
open PySem L2
/-! ### what is shown by repr -/
structure Sh (d : PyData) : Prop where
  s : d.showable = true
  n : d.hasDict = false
  l : d.leavesShort 13 = true
  w : d.weight ≤ 1000000
  dp : d.depth ≤ 8
theorem Sh.size {d : PyData} (x : Sh d) : d.shown.length ≤ sizeLine := PyData.shown_fits (B := 13) (by decide) (by decide) x.l (Nat.le_trans x.w (by decide))
theorem weight_int {z : Int} (h : z.natAbs < 2 ^ 30) : (PyData.int z).weight ≤ 31 := by
  show (if z == 0 then 0 else z.natAbs.log2 + 1) ≤ 31
  by_cases h0 : (z == 0) = true
  · rw [if_pos h0]
    decide
  · rw [if_neg h0]
    have hz : z.natAbs ≠ 0 := by
      have : ¬ z = 0 := by simpa using h0
      omega
    have := (Nat.log2_lt hz).mpr h
    omega
theorem show_int {z : Int} (h : z.natAbs < 2 ^ 30) : (PyData.int z).showable = true ∧ (PyData.int z).leavesShort 13 = true := by
  refine ⟨decide_eq_true ?_, ?_⟩
  · by_cases hz : z.natAbs = 0
    · rw [hz]
      decide
    · exact Nat.lt_trans ((Nat.log2_lt hz).mpr h) (by decide)
  · exact decide_eq_true (PyData.shown_int_le (Nat.lt_trans h (by decide)))
theorem sh_int {z : Int} (h : z.natAbs < 2 ^ 30) : Sh (.int z) := ⟨(show_int h).1, rfl, (show_int h).2, Nat.le_trans (weight_int h) (by decide), by show 0 ≤ 8; decide⟩
theorem show_ints : ∀ {r : List Int}, (∀ z ∈ r, z.natAbs < 2 ^ 30) → PyData.showableAll (r.map PyData.int) = true ∧ PyData.hasDictAll (r.map PyData.int) = false ∧ PyData.leavesShortAll 13 (r.map PyData.int) = true ∧ PyData.weightAll (r.map PyData.int) ≤ 32 * r.length
  | [], _ => ⟨rfl, rfl, rfl, Nat.le_refl _⟩
  | z :: r, h => by
    obtain ⟨h1, h2, h3, h4⟩ := show_ints fun y hy => h y (List.mem_cons_of_mem _ hy)
    obtain ⟨i1, i2⟩ := show_int (h z List.mem_cons_self)
    have i3 := weight_int (h z List.mem_cons_self)
    refine ⟨?_, ?_, ?_, ?_⟩
    · show ((PyData.int z).showable && PyData.showableAll (r.map PyData.int)) = true
      rw [i1, h1] <;> rfl
    · show (false || PyData.hasDictAll (r.map PyData.int)) = false
      rw [h2] <;> rfl
    · show ((PyData.int z).leavesShort 13 && PyData.leavesShortAll 13 (r.map PyData.int)) = true
      rw [i2, h3] <;> rfl
    · show (PyData.int z).weight + 1 + PyData.weightAll (r.map PyData.int) ≤ 32 * (r.length + 1)
      omega
theorem sh_row {r : List Int} (h : ∀ z ∈ r, z.natAbs < 2 ^ 30) (hl : r.length ≤ 10000) : Sh (rowP r) := by
  obtain ⟨h1, h2, h3, h4⟩ := show_ints h
  refine ⟨h1, h2, h3, Nat.le_trans h4 (by omega), ?_⟩
  have e : (rowP r).depth = PyData.depthAll (r.map PyData.int) + 1 := rfl
  have := depth_ints r
  omega
theorem show_rows {m : Nat} : ∀ {rs : List (List Int)}, (∀ r ∈ rs, r.length ≤ m ∧ ∀ z ∈ r, z.natAbs < 2 ^ 30) → PyData.showableAll (rs.map rowP) = true ∧ PyData.hasDictAll (rs.map rowP) = false ∧ PyData.leavesShortAll 13 (rs.map rowP) = true ∧ PyData.weightAll (rs.map rowP) ≤ (32 * m + 1) * rs.length
  | [], _ => ⟨rfl, rfl, rfl, Nat.zero_le _⟩
  | r :: rs, h => by
    obtain ⟨h1, h2, h3, h4⟩ := show_rows fun y hy => h y (List.mem_cons_of_mem _ hy)
    obtain ⟨hl, hz⟩ := h r List.mem_cons_self
    obtain ⟨i1, i2, i3, i4⟩ := show_ints hz
    refine ⟨?_, ?_, ?_, ?_⟩
    · show (PyData.showableAll (r.map PyData.int) && PyData.showableAll (rs.map rowP)) = true
      rw [i1, h1] <;> rfl
    · show (PyData.hasDictAll (r.map PyData.int) || PyData.hasDictAll (rs.map rowP)) = false
      rw [i2, h2] <;> rfl
    · show (PyData.leavesShortAll 13 (r.map PyData.int) && PyData.leavesShortAll 13 (rs.map rowP)) = true
      rw [i3, h3] <;> rfl
    · show PyData.weightAll (r.map PyData.int) + 1 + PyData.weightAll (rs.map rowP) ≤ (32 * m + 1) * (rs.length + 1)
      have : 32 * r.length ≤ 32 * m := Nat.mul_le_mul_left _ hl
      rw [Nat.mul_add]
      omega
/-- a machine's fields, as they are told -/
def machP (A n : Int) (rs : List (List Int)) : PyData := .tuple [.int A, .int n, .tuple (rs.map rowP)]
theorem sh_mach {A n : Int} {rs : List (List Int)} (hA : A.natAbs < 2 ^ 30) (hn : n.natAbs < 2 ^ 30) (h : ∀ r ∈ rs, r.length ≤ 5 ∧ ∀ z ∈ r, z.natAbs < 2 ^ 30) (hl : rs.length ≤ 1000) : Sh (machP A n rs) := by
  obtain ⟨h1, h2, h3, h4⟩ := show_rows h
  obtain ⟨a1, a2⟩ := show_int hA
  obtain ⟨b1, b2⟩ := show_int hn
  have a3 := weight_int hA
  have b3 := weight_int hn
  refine ⟨?_, ?_, ?_, ?_, ?_⟩
  · show ((PyData.int A).showable && ((PyData.int n).showable && (PyData.showableAll (rs.map rowP) && true))) = true
    rw [a1, b1, h1] <;> rfl
  · show (false || (false || (PyData.hasDictAll (rs.map rowP) || false))) = false
    rw [h2] <;> rfl
  · show ((PyData.int A).leavesShort 13 && ((PyData.int n).leavesShort 13 && (PyData.leavesShortAll 13 (rs.map rowP) && true))) = true
    rw [a2, b2, h3] <;> rfl
  · show (PyData.int A).weight + 1 + ((PyData.int n).weight + 1 + (PyData.weightAll (rs.map rowP) + 1 + 0)) ≤ 1000000
    omega
  · have e : (machP A n rs).depth = max 0 (max 0 (max (PyData.depthAll (rs.map rowP) + 1) 0)) + 1 := rfl
    have := depth_rows rs
    omega
/-- repr of an int, or of lists and tuples -/
def rRepr (K : PySem.W.Frag) : List V → Hp → VK → Prop := fun xs H Q => ∃ (x : V) (d : PyData), xs = [x] ∧ Dp K H x d ∧ ((∃ i, x = .int i) ∨ ∃ a, x = .ref a) ∧ Sh d ∧ Q (.str d.shown) H
theorem call_repr {X : Cx} (hg : X.A.guards = some []) (hu : X.A.units + 16 < cLine) : CallR X (.builtin "repr") (rRepr X.K) := by
  intro pins s σ H xs us Q I r h
  obtain ⟨x, d, rfl, D, hk, sh, q⟩ := h
  obtain ⟨u, rfl, ru⟩ := Vals.one r
  rcases hk with ⟨i, rfl⟩ | ⟨a, rfl⟩
  · cases D
    obtain ⟨t, rfl⟩ := ru
    exact PySem.P.repr_of_int (of_decide_eq_true sh.s) ⟨.str _, H, I.tok _, ⟨_, rfl⟩, q⟩
  · obtain rfl : u = Value.ref a := ru
    obtain ⟨as, rd⟩ := Dp.reads I d _ _ D rfl
    refine PySem.repr_of_reads' rd sh.s (fun h' => by rw [sh.n] at h'; cases h') hg (by have := sh.dp; omega) (fun b o e => e) (fun h' w tk hk => ⟨.str d.shown, H, ?_, ⟨_, rfl⟩, q⟩) sh.size
    exact I.kept (t' := tk) hk
end Lk

set_option Elab.async false
set_option linter.all false
set_option maxRecDepth 100000
set_option maxHeartbeats 4000000
namespace Lk
open PySem PySem.Spec PyProof.Rows L2
/-! ### defs that run where no repr is under way -/
structure FnG (P : Program) (w : World) (K : PySem.W.Frag) (mg : Str → Option Value) (base : Heap) (k : Nat) (f : Addr) (fd : FuncData) (ps : List Str) (sp : Sp) : Prop where
  len : ∀ vs H Q E, sp vs H Q E → vs.length = ps.length
  run : ∀ (A : Around) (outer : List Env) (s : Shared) (H : Hp) (args : Args) (us : List Value) (vs : List V) (Q : VK) (E : XK), A.guards = some [] → Room k A → Env0 P w K mg base A outer s H → BindsTo s fd args (ps.zip us) → Vals vs us → sp vs H Q E →
    codeAny (model P w) A (.call (.ref f) args) (CR CX0 outer P w H s Q E) s
section
variable {P : Program} {w : World} {K : PySem.W.Frag} {mg : Str → Option Value} {base : Heap}
theorem Fun.okG {x qual : Str} {st : Stmt} {f : Addr} {fd : FuncData} {N ps : List Str} {k : Nat} {sp : Sp} (F : Fun K x qual st f fd) (S : FnScope N ps (defScope st)) (len : ∀ vs H Q E, sp vs H Q E → vs.length = ps.length)
    (body : ∀ (cdv : Value) (A : Around) (outer : List Env) (s : Shared) (H : Hp) (vs : List V) (Q : VK) (E : XK), A.guards = some [] → Room k (A.deeper (envOfC qual (defScope st) s.heap.objs.size f cdv)) → sp vs H Q E →
      ∃ t, PSs (cxOf CX0 P w K mg base N qual (defScope st) f cdv A outer s H E).nox (defBody st) t ∧ t { nx := fun _ H' => Q .non H', rt := Q } (start N vs) H) : FnG P w K mg base (k + 1) f fd ps sp := by
  obtain ⟨oc, od, kV, doc, pm, an, cdv, ct, osl, rfl, lk, hcd⟩ := F.ex
  refine ⟨len, fun A outer s H args us vs Q E hg hr e0 hb r h => ?_⟩
  have keep : ∀ b o, base.get? b = some o → s.heap.get? b = some o := fun b o e => (e0.bs b o e).1
  have kx := e0.mod.kin.keeps keep
  have kinds : ∀ q ∈ ps.zip us, (defScope st).names.lookup q.1 = some .local ∨ ((defScope st).names.lookup q.1 = some .cell ∧ ((cellsFrom (s.heap.objs.size + 1) (defScope st).names []).lookup q.1).isSome = true) := fun q hq => by
    rcases S.par q.1 (List.of_mem_zip hq).1 with z | z
    · exact .inl z
    · exact .inr ⟨z, PySem.W.cellsFrom_some _ _ _ (.inl z)⟩
  refine codeAny_call_function hr.depth (kx _ _ lk) rfl S.co S.gen rfl (PySem.W.codeRec_of kx hcd) (hb _ _ _ _ (wpAny_newFunctionEnv_cells S.kind kinds fun env he s1 z => ?_))
  subst he
  refine ⟨(e0.mod.nolimit.keeps keep).keeps z.toInCall.keep, codeAny_func ?_⟩
  obtain ⟨t, ht, q⟩ := body cdv A outer s H vs Q E hg (hr.deeper _) h
  have I := inv_start (CX := CX0) (E := E) (mg := mg) (f := f) (cd := cdv) (qual := qual) S hr.hd e0 (len _ _ _ _ h) r z
  refine wpAny_mono (ht.nox.run [] s1 (start N vs) H _ I q) (fun fl s2 hs => ?_) fun e s2 hs => hs
  match fl, hs with
  | .ret u, ⟨v, σ2, H2, J, rv, k⟩ => exact ⟨v, H2, J.os, J.bare, J.base, J.hok, rv, k⟩
  | .next, ⟨σ2, H2, J, k⟩ => exact ⟨.non, H2, J.os, J.bare, J.base, J.hok, rfl, k⟩
  | .brk, ⟨_, _, _, k⟩ => exact k.elim
  | .cont, ⟨_, _, _, k⟩ => exact k.elim
end
section
variable {X : Cx} {k : Nat} {f : Addr} {fd : FuncData} {ps : List Str} {sp : Sp} {x : Str} {p pos : Pos} {e : Expr} {es : List Expr} {t : TA}
theorem pe_callG (G : FnG X.prog X.w X.K X.mg X.base k f fd ps sp) (quiet : X.A.guards = some []) (room : Room k X.A) (gx : Gl X x) (mx : X.mg x = some (.ref f)) (kp : PySem.W.keepIn X.K (.ref f) = true) (bd : Binds X.K fd ps []) (args : PA X (e :: es) t)
    (h1 : (x == ("__debug__" : Str)) = false := by decide) (h2 : starEach (e :: es) X.env = (false, eval e X.env) :: starEach es X.env := by rfl) (h3 : (backTo pos (starEach es X.env)).any (·.1) = false := by rfl) :
    PE X (.Call (.Name x p) (e :: es) [] pos) (tCall sp [] E0 t) := by
  refine ⟨fun pins s σ H Q I h => wpAny_Call_Name_kw (ld_glob I gx mx (PySem.W.callWith_K (h₀ := X.base) I.ok.mod.kin kp (thn (args.run pos pins s σ H _ I h) fun us s1 ⟨vs, H1, I1, r, q⟩ => ⟨I1.kIn, ?_⟩) h2 h3) h1)⟩
  have q : sp (vs ++ []) H1 Q E0 := q
  rw [List.append_nil] at q
  have hl : us.length = ps.length := by rw [← r.length]; exact G.len _ _ _ _ q
  have b := bd s1 us I1.kIn (by rw [List.append_nil]; exact hl)
  rw [List.append_nil] at b
  refine wpAny_call (codeAny_mono (G.run X.A X.stack s1 H1 ⟨us, []⟩ us vs Q E0 quiet room I1.env0 b r q) fun z s2 q2 => ?_)
  match z, q2 with
  | .error e, q2 => exact q2.elim
  | .ok (.ret u), q2 => exact I1.after q2
  | .ok .next, q2 => exact q2.elim
  | .ok .brk, q2 => exact q2.elim
  | .ok .cont, q2 => exact q2.elim
end
end Lk

set_option Elab.async false
set_option linter.all false
set_option maxRecDepth 100000
set_option maxHeartbeats 4000000
/-! the law's end, for a law that runs where no repr is under way -/
namespace Lk
open PySem PySem.Spec PyProof.Rows L2
section
variable {P : Program} {w : World} {K : PySem.W.Frag} {mg mb : Str → Option Value} {k : Nat} {fa a : Addr} {fd : FuncData} {x : Str} {sp : Sp} {s : Shared} {vs : List Value} {ns : List Int}
/-- what the law's call leaves -/
abbrev Fine (s : Shared) (r : Result) (s' : Shared) : Prop := r = .ok (.ret (.bool true)) ∧ OldK s.heap s'.heap ∧ s'.os = s.os ∧ AllBare s'.gens
/-- H: what is told of the heap, the script alone or nothing -/
theorem core_G {H : Hp} (kx : K.In s.heap) (gl : s.heap.Ns mainGlobals mg) (bl : s.heap.Ns builtinsNs mb) (bb : ∀ y : Str, y ≠ "__name__" → mb y = bootBuiltins y) (lim : s.heap.NoLimit) (gens : s.gens = #[]) (obj : s.heap.get? a = some { cls := .type "list", data := .seq vs.toArray }) (room : Room k callerA)
    (F : ∀ base : Heap, K.In base → base.Ns mainGlobals mg → FnG P w K mg base k fa fd [x] sp) (bind : ∀ (s : Shared) (u : Value), BindsTo s fd ⟨[u], []⟩ [(x, u)]) (at_a : ∀ b u, H b = some u → b = a ∧ ∃ o ys, u = .frz o (.lst ys)) (ok : HOk P w H s.heap) (un : H a ≠ none → K.lookup a = none)
    (h : sp [.ref a] H (fun v _ => v = .bl true) fun _ _ _ => False) : codeAny (model P w) callerA (.call (.ref fa) ⟨[.ref a], []⟩) (Fine s) s := by
  have other : ∀ b, b ≠ a → H b = none := fun b n => by
    cases q : H b with
    | none => rfl
    | some u => exact absurd (at_a b u q).1 n
  have stays : ∀ {b : Addr} {m : Str → Option Value}, s.heap.Ns b m → (hidT s.heap H).Ns b m := fun {b m} ⟨o, es, ep, e, d, r⟩ => by
    refine ⟨o, es, ep, hidT_get e (other b fun z => ?_), d, r⟩
    subst z
    rw [obj] at e
    cases e
    cases (show Data.seq vs.toArray _ = Data.dict es ep from d)
  have kin : K.In (hidT s.heap H) := fun b o e => hidT_get (kx b o e) (by
    cases q : H b with
    | none => rfl
    | some u =>
      have z := (at_a b u q).1
      subst z
      rw [un (by rw [q]; simp)] at e
      cases e)
  obtain ⟨mc, l1, l2⟩ := lim
  have e0 : Env0 P w K mg (hidT s.heap H) callerA [] s H := ⟨rfl, ⟨kin, stays gl, ⟨mb, stays bl, bb⟩, ⟨mc, stays l1, l2⟩⟩, fun b o e => of_hidT e, Nat.le_of_eq (hidT_size _ _), trivial, (fun b hb => by cases (show b ∈ ([] : List Addr) from hb)), ok, .of_eq gens⟩
  refine codeAny_mono ((F _ kin (stays gl)).run callerA [] s H ⟨[.ref a], []⟩ [.ref a] [.ref a] _ _ rfl room e0 (bind s (.ref a)) (.cons rfl .nil) h) fun r s2 q => ?_
  match r, q with
  | .error e, q => exact q.elim
  | .ok .next, q => exact q.elim
  | .ok .brk, q => exact q.elim
  | .ok .cont, q => exact q.elim
  | .ok (.ret u), ⟨v, H2, os, bare, ub, ok2, rv, ev⟩ =>
    have ev' : v = .bl true := ev
    subst ev'
    obtain rfl : u = Value.bool true := rv
    refine ⟨rfl, OldK.of_keep fun b o e => ?_, os, bare⟩
    cases q : H b with
    | none => exact ub.keep b o e q (by simp [frs]) (by simp)
    | some t =>
      obtain ⟨_, ob, ys, rfl⟩ := at_a b t q
      have f1 := ok b _ q
      have f2 := ok2 b _ (ub.frzs b ob _ q)
      obtain ⟨g1, _⟩ := f1
      obtain ⟨g2, _⟩ := f2
      rw [e] at g1
      cases g1
      exact g2
theorem law_callG (kx : K.In s.heap) (gl : s.heap.Ns mainGlobals mg) (bl : s.heap.Ns builtinsNs mb) (bb : ∀ y : Str, y ≠ "__name__" → mb y = bootBuiltins y) (lim : s.heap.NoLimit) (gens : s.gens = #[]) (obj : s.heap.get? a = some { cls := .type "list", data := .seq vs.toArray }) (its : IntsAre vs ns) (len : ns.length ≤ sizeLine) (room : Room k callerA)
    (F : ∀ base : Heap, K.In base → base.Ns mainGlobals mg → FnG P w K mg base k fa fd [x] sp) (bind : ∀ (s : Shared) (u : Value), BindsTo s fd ⟨[u], []⟩ [(x, u)])
    (h : ∀ H : Hp, SqL K H a (ns.map V.int) → sp [.ref a] H (fun v _ => v = .bl true) fun _ _ _ => False) : codeAny (model P w) callerA (.call (.ref fa) ⟨[.ref a], []⟩) (Fine s) s := by
  cases q : K.lookup a with
  | some o =>
    have e := kx a o q
    rw [obj] at e
    cases e
    exact core_G (H := fun _ => none) kx gl bl bb lim gens obj room F bind (fun _ _ z => by cases z) (fun _ _ z => by cases (show (none : Option HO) = some _ from z)) (fun z => absurd rfl z) (h _ (.inr ⟨_, vs.toArray, _, q, rfl, rfl, rfl, by rw [List.size_toArray, its.length]; exact len, by simpa using vals_ints its⟩))
  | none =>
    refine core_G (H := fun b => if b = a then some (.frz { cls := .type "list", data := .seq vs.toArray } (.lst (ns.map V.int))) else none) kx gl bl bb lim gens obj room F bind (fun b u z => ?_) (fun b u z => ?_) (fun _ => q) (h _ (.inl (.inr ⟨_, if_pos rfl⟩)))
    · by_cases hb : b = a
      · exact ⟨hb, _, _, (Option.some.inj ((if_pos hb).symm.trans z)).symm⟩
      · cases (if_neg hb).symm.trans z
    · by_cases hb : b = a
      · cases (if_pos hb).symm.trans z
        subst hb
        exact ⟨obj, by rw [List.length_map]; exact len, vs, _, vals_ints its, obj⟩
      · cases (if_neg hb).symm.trans z
end
theorem walk_G {l : PySem.W.OpenLaw} {n k : Nat} {q : Program} {loose : List Str} {XP : (Str → Option Value) → Heap → Prop} {YP : World → Heap → Prop} {d : DefRec} {K : Params → PySem.W.Frag} {sp : World → Sp} {x : Str} (hn : l.most = some n) (hn2 : n ≤ sizeLine) (hdf : d.params.defaults = []) (room : Room k callerA)
    (inn : ∀ (w : World) (h : Heap), YP w h → (K w.params).In h)
    (F : ∀ (w : World) (mg : Str → Option Value) (fa : Addr) (h : Heap), (K w.params).In h → h.Ns mainGlobals mg → mg d.name = some (.ref fa) → ∃ fd : FuncData, (∀ (s : Shared) (u : Value), BindsTo s fd ⟨[u], []⟩ [(x, u)]) ∧ ∀ base : Heap, (K w.params).In base → base.Ns mainGlobals mg → FnG l.prog w (K w.params) mg base k fa fd [x] (sp w))
    (h : ∀ (w : World) (H : Hp) (a : Addr) (ns : List Int), ns.length ≤ n → SqL (K w.params) H a (ns.map V.int) → sp w [.ref a] H (fun v _ => v = .bl true) fun _ _ _ => False) : PySem.W.WalkO q loose XP YP l.row.toRowW d [] (fun f vs => PySem.call f vs) := by
  refine Att.attach_call hn hdf fun w s0 s1 mg mb fa o pm cd doc a vs ns G Y ho hd hcd hmg obj its len gens => ?_
  obtain ⟨fd, b, f⟩ := F w mg fa _ (inn w _ Y) G.T.g hmg
  exact law_callG (inn w _ Y) G.T.g G.T.b G.T.builtins G.T.nolimit gens obj its (Nat.le_trans len hn2) room f b fun H hS => h w H a ns len hS
end Lk

set_option Elab.async false
set_option linter.all false
set_option maxRecDepth 100000
set_option maxHeartbeats 4000000
namespace Lk
open PySem L2
theorem joinName {te : TE} {g : TG} {rest : TS} {D : Ends} {i : Nat} {v : V} {σ : St} {H : Hp} {f : St → Hp → Prop} (e : f = tSeq (tAsg te g) rest D) (R : V → Hp → Prop) (h : ∀ Q' : VK, (∀ v H', R v H' → Q' v H') → te (σ.set i (some v)) H Q') (k : ∀ u H', R u H' → g u (σ.set i (some v)) H' (rest D)) : gName i v σ H f := by
  subst e
  exact h _ k
theorem joinNx {te : TE} {g : TG} {rest : TS} {D : Ends} {σ : St} {H : Hp} {f : St → Hp → Prop} (e : f = tSeq (tAsg te g) rest D) (R : V → Hp → Prop) (h : ∀ Q' : VK, (∀ v H', R v H' → Q' v H') → te σ H Q') (k : ∀ u H', R u H' → g u σ H' (rest D)) : f σ H := by
  subst e
  exact h _ k
theorem joinIf {c : TT} {t rest : TS} {D : Ends} {σ : St} {H : Hp} {f : St → Hp → Prop} (e : f = tSeq (tIfS c t tNext) rest D) (R : Hp → Prop) (h : ∀ Q' : Bool → Hp → Prop, (∀ H', R H' → Q' false H') → c σ H Q') (k : ∀ H', R H' → rest D σ H') : f σ H := by
  subst e
  exact h _ fun H' r => iteF (k H' r)
theorem joinNameIf {c : TT} {t rest : TS} {D : Ends} {i : Nat} {v : V} {σ : St} {H : Hp} {f : St → Hp → Prop} (e : f = tSeq (tIfS c t tNext) rest D) (R : Hp → Prop) (h : ∀ Q' : Bool → Hp → Prop, (∀ H', R H' → Q' false H') → c (σ.set i (some v)) H Q') (k : ∀ H', R H' → rest D (σ.set i (some v)) H') : gName i v σ H f := by
  subst e
  exact h _ fun H' r => iteF (k H' r)
/-- a machine of rows in tuples is made -/
theorem make_rowsT {CM CE : Addr} {H1 : Hp} {q : Addr} {A : Nat} {vs : List (Addr × List Int)} {Q : Addr → Hp → Prop} {E : XK} (hA : 0 < A) (h5 : A ≤ 1000) (hq : H1 q = some (.tup (vs.map fun u => V.ref u.1))) (rows : ∀ u ∈ vs, H1 u.1 = some (.tup (u.2.map V.int))) (R : Rs A (rsOf vs)) (hz : vs.length ≤ 1000)
    (h : ∀ H' m us, Same H1 H' → H1 m = none → MachAt CM H' m (A : Int) us → rsOf us = rsOf vs → Q m H') :
    ∀ x0 dx, H1 x0 = none → H1 dx = none → dx ≠ x0 → spInit CM CE (.ref x0 :: ([.int (A : Int), .ref q] ++ [])) (upd (upd H1 dx (.own x0)) x0 (.ins CM dx [])) (fun v H2 => v = .non ∧ Q x0 H2) E := by
  refine make_any (dc := .int (A : Int)) (ds := .tuple ((rsOf vs).map rowP)) (.int _) (.tup hq (dv_rowsT rows)) ?_ (fun e he => ?_) ?_
  · show ((rsOf vs).map rowP).length ≤ 1000
    rw [List.length_map, rsOf_len]
    exact hz
  · obtain ⟨r, hr, rfl⟩ := List.mem_map.mp he
    show (r.map PyData.int).length ≤ 1000
    rw [List.length_map, (R.row r hr).1]
    exact h5
  · have e : makeRes (.int (A : Int)) (.tuple ((rsOf vs).map rowP)) = none := by
      rw [makeRes_int hA]
      exact stepsRes_rows (A := A) (g := rowP) rfl rfl (fun n r h => isE_tup h) R
    rw [e]
    refine fun H' m us S hm M eR => h H' m us S hm M ?_
    rw [eR]
    exact map_rowD rowD_tup _
theorem Game.upd {CM : Addr} {H : Hp} {d l a m b : Addr} {A : Nat} {ts us : List (Addr × List Int)} {xs : List V} {o : HO} (g : Game CM H d l a m A ts us) (hb : H b = some (.lst xs)) (nb : ¬ dl d l b) (na : a ≠ b) (nt : ∀ t ∈ ts, t.1 ≠ b) : Game CM (L2.upd H b o) d l a m A ts us :=
  ⟨g.D.upd nb, ⟨(upd_ne na).trans g.G.top, fun t ht => (upd_ne (nt t ht)).trans (g.G.row t ht)⟩, g.na, g.nt, g.R, g.A0, g.A5, g.hz, g.M.nl (NL.upd hb), g.e⟩
theorem sb_upd {d l b : Addr} {H H' : Hp} {o : HO} (x : SB d l H H') (h : H b = none) : SB d l H (upd H' b o) := (x.kp.mut h).sb
/-- rows in tuples, in a tuple -/
structure Wh (H : Hp) (q : Addr) (vs : List (Addr × List Int)) : Prop where
  top : H q = some (.tup (vs.map fun u => V.ref u.1))
  row : ∀ u ∈ vs, H u.1 = some (.tup (u.2.map V.int))
theorem Wh.same {H H' : Hp} {q : Addr} {vs : List (Addr × List Int)} (x : Wh H q vs) (S : Same H H') : Wh H' q vs := ⟨S _ _ x.top, fun u hu => S _ _ (x.row u hu)⟩
/-- the game, with a row, and the row as it is told -/
structure Play (CM : Addr) (H : Hp) (d l a m : Addr) (A : Nat) (ts us : List (Addr × List Int)) (rq b : Addr) (ns : List Int) (dy : PyData) : Prop where
  g : Game CM H d l a m A ts us
  r : H rq = some (.tup (ns.map V.int))
  nr : ¬ dl d l rq
  nb : ¬ dl d l b
  t : (H b = some (.lst (ns.map V.int)) ∧ dy = .list (ns.map PyData.int)) ∨ (H b = some (.tup (ns.map V.int)) ∧ dy = .tuple (ns.map PyData.int))
section
variable {CM : Addr} {H H' : Hp} {d l a m rq b : Addr} {A : Nat} {ts us : List (Addr × List Int)} {ns : List Int} {dy : PyData}
theorem Play.go (x : Play CM H d l a m A ts us rq b ns dy) (D' : DealAt H' d l) (S : SB d l H H') : Play CM H' d l a m A ts us rq b ns dy :=
  ⟨x.g.go D' S, S.kp.get x.nr x.r, x.nr, x.nb, x.t.elim (fun z => .inl ⟨S.kp.get x.nb z.1, z.2⟩) fun z => .inr ⟨S.kp.get x.nb z.1, z.2⟩⟩
theorem Play.same (x : Play CM H d l a m A ts us rq b ns dy) (S : Same H H') : Play CM H' d l a m A ts us rq b ns dy := x.go (x.g.same S).D (KP.same S).sb
theorem Play.new {p : Addr} {o : HO} (x : Play CM H d l a m A ts us rq b ns dy) (h : H p = none) : Play CM (upd H p o) d l a m A ts us rq b ns dy := x.same (Same.new h)
theorem Play.dv (x : Play CM H d l a m A ts us rq b ns dy) : Dv H (.ref b) dy := by
  rcases x.t with ⟨h, rfl⟩ | ⟨h, rfl⟩
  · exact .lst h (dvAll_ints _)
  · exact .tup h (dvAll_ints _)
theorem Play.items (x : Play CM H d l a m A ts us rq b ns dy) : isS dy = true ∧ itemsD dy = ns.map PyData.int := by
  rcases x.t with ⟨h, rfl⟩ | ⟨h, rfl⟩
  · exact ⟨rfl, rfl⟩
  · exact ⟨rfl, rfl⟩
end
theorem badV_ok {A : Int} : ∀ {ns : List Int} {i : Nat}, (∀ z ∈ ns, 0 ≤ z ∧ z < A) → badV A (ns.map PyData.int) i = none
  | [], _, _ => rfl
  | z :: ns, i, h => by
    have q := h z List.mem_cons_self
    have e : isB A (.int z) = true := by
      show (decide (0 ≤ z) && decide (z < A)) = true
      rw [decide_eq_true q.1, decide_eq_true q.2] <;> rfl
    rw [List.map_cons, badV_cons, if_pos e]
    exact badV_ok fun y hy => h y (List.mem_cons_of_mem _ hy)
theorem dp_ref {K : PySem.W.Frag} {H : Hp} {v : V} {ds : List PyData} (h : Dp K H v (.tuple ds)) : ∃ a, v = .ref a := by
  cases h with
  | tup _ _ => exact ⟨_, rfl⟩
theorem dp_int {K : PySem.W.Frag} {H : Hp} {v : V} {i : Int} (h : Dp K H v (.int i)) : v = .int i := by
  cases h
  rfl
theorem powG_in {n : Nat} : ∀ {k t : Nat} {a b : List Int}, InR n a → InR n b → InR n (powG k t a b)
  | 0, _, _, _, _, hb => hb
  | k + 1, t, a, b, ha, hb => by
    unfold powG
    by_cases h : t = 0
    · rw [if_pos h]
      exact hb
    · rw [if_neg h]
      refine powG_in (ha.comp ha) ?_
      by_cases h2 : t % 2 = 1
      · rw [if_pos h2]
        exact hb.comp ha
      · rw [if_neg h2]
        exact hb
mutual
theorem dp_same {K : PySem.W.Frag} {H H' : Hp} (S : Same H H') : ∀ {v : V} {d : PyData}, Dp K H v d → Dp K H' v d
  | _, _, .non => .non
  | _, _, .bl b => .bl b
  | _, _, .int i => .int i
  | _, _, .str x => .str x
  | _, _, .lst h t => .lst (Same.seq S h) (dpAll_same S t)
  | _, _, .tup h t => .tup (sameT S h) (dpAll_same S t)
theorem dpAll_same {K : PySem.W.Frag} {H H' : Hp} (S : Same H H') : ∀ {vs : List V} {ds : List PyData}, DpAll K H vs ds → DpAll K H' vs ds
  | _, _, .nil => .nil
  | _, _, .cons h t => .cons (dp_same S h) (dpAll_same S t)
end
/-- what v is, whatever is drawn -/
def KDv (d l : Addr) (H : Hp) (v : V) (e : PyData) : Prop := ∀ H', SB d l H H' → Dv H' v e
theorem KDv.dv {d l : Addr} {H : Hp} {v : V} {e : PyData} (x : KDv d l H v e) : Dv H v e := x H (SB.refl d l H)
theorem KDv.go {d l : Addr} {H H1 : Hp} {v : V} {e : PyData} (x : KDv d l H v e) (S : SB d l H H1) : KDv d l H1 v e := fun H' S' => x H' (S.trans S')
theorem rSlA_ok {K : PySem.W.Frag} {H : Hp} {rq : Addr} {xs : List V} {lo hi : Option Int} {Q : VK} (h : SqT K H rq xs) (k : ∀ H' p, Same H H' → SqT K H' p (cutV xs lo hi) → Q (.ref p) H') : rSlA K (.ref rq) lo hi H Q := by
  refine ⟨rq, xs, rfl, h, fun e => k H rq (Same.refl _) ?_, fun _ p hp => k _ p (Same.new hp) (SqT.of upd_same)⟩
  have e2 : cutV xs lo hi = xs := by
    unfold cutV
    rw [e.1, e.2, List.drop_zero, Nat.sub_zero, List.take_length]
  rw [e2]
  exact h
theorem badV_at {A : Int} {e : PyData} (he : isB A e = false) : ∀ {ns : List Int} {post : List PyData} {i : Nat}, (∀ z ∈ ns, 0 ≤ z ∧ z < A) → badV A (ns.map PyData.int ++ e :: post) i = some (i + ns.length)
  | [], _, _, _ => by
    show badV A (e :: _) _ = _
    rw [badV_cons, if_neg (by rw [he]; decide)]
    rfl
  | z :: ns, post, i, h => by
    have q := h z List.mem_cons_self
    have e1 : isB A (.int z) = true := by
      show (decide (0 ≤ z) && decide (z < A)) = true
      rw [decide_eq_true q.1, decide_eq_true q.2] <;> rfl
    show badV A (.int z :: (ns.map PyData.int ++ e :: post)) i = _
    rw [badV_cons, if_pos e1, badV_at he fun x hx => h x (List.mem_cons_of_mem _ hx), List.length_cons]
    congr 1
    omega
theorem isB_self {n : Int} : isB n (.int n) = false := by
  show (decide (0 ≤ n) && decide (n < n)) = false
  rw [decide_eq_false (show ¬ n < n by omega), Bool.and_false]
theorem noPart {σ : St} {H : Hp} {Q : Option Int → Hp → Prop} (h : Q none H) : tNoPart σ H Q := h
theorem eqv_pair (s : Str) (i : Int) : PyData.eqv (.tuple [.str s, .int i]) (.tuple [.str s, .int i]) = true := by
  show ((s == s) && ((i == i) && true)) = true
  simp
theorem shaped_row (i : Int) : SeqAt.shaped (.tuple [.str "row", .int i]) = true := by
  have h1 : PyData.canLay0 (.tuple [.str "row", .int i]) = true := by
    show (PyData.canLay0 (.str "row") && (true && true)) = true
    rw [show PyData.canLay0 (.str "row") = true by decide +kernel] <;> rfl
  have h2 : PyData.depth (.tuple [.str "row", .int i]) ≤ 64 := by
    show max 0 (max 0 0) + 1 ≤ 64
    decide
  unfold SeqAt.shaped
  rw [h1, Bool.true_and]
  exact decide_eq_true h2
theorem shaped_ref (i : Int) : SeqAt.shaped (.tuple [.str "refused", .int i]) = true := by
  have h1 : PyData.canLay0 (.tuple [.str "refused", .int i]) = true := by
    show (PyData.canLay0 (.str "refused") && (true && true)) = true
    rw [show PyData.canLay0 (.str "refused") = true by decide +kernel] <;> rfl
  have h2 : PyData.depth (.tuple [.str "refused", .int i]) ≤ 64 := by
    show max 0 (max 0 0) + 1 ≤ 64
    decide
  unfold SeqAt.shaped
  rw [h1, Bool.true_and]
  exact decide_eq_true h2
theorem rowRes_no {A : Int} {e : PyData} (h : isS e = false) : rowRes A e = some 0 := by
  unfold rowRes
  rw [if_pos h]
theorem rows_ok {A : Nat} {os : List (Addr × List Int)} (x : Rs A (rsOf os)) : RowsOk A os := by
  refine ⟨by have := x.pos; rw [rsOf_len] at this; exact this, fun t ht => ?_⟩
  have := x.row t.2 (List.mem_map.mpr ⟨t, ht, rfl⟩)
  rw [rsOf_len] at this
  exact this
end Lk

set_option Elab.async false
set_option linter.all false
set_option maxRecDepth 100000
set_option maxHeartbeats 8000000
namespace Lk
open PySem L2
theorem get_int {f : List Int} {i : Nat} {v : V} (h : (f.map V.int)[i]? = some v) : ∃ c, f[i]? = some c ∧ V.int c = v := by
  rw [List.getElem?_map] at h
  cases e : f[i]? with
  | none => rw [e] at h; cases h
  | some c => rw [e] at h; exact ⟨c, rfl, Option.some.inj h⟩
abbrev s_law_columns_of : Stmt := top 40
abbrev N_law_columns_of : List Str := ["deal", "which", "many", "turn", "falls", "turned", "to", "adds", "state", "add", "first"]
abbrev P_law_columns_of : List Str := ["deal", "which", "many"]
theorem sc_law_columns_of : FnScope N_law_columns_of P_law_columns_of (defScope s_law_columns_of) := ⟨rfl, rfl, rfl, by decide +kernel, rfl, by decide +kernel, by decide +kernel⟩
/-- columns of n states -/
structure Cols (n : Nat) (ts : List (Addr × List Int)) : Prop where
  ne : 0 < ts.length
  le : ts.length ≤ 3
  n0 : 0 < n
  n4 : n ≤ 4
  row : ∀ t ∈ ts, t.2.length = n ∧ ∀ z ∈ t.2, 0 ≤ z ∧ z < (n : Int)
/-- columns at v, new behind H -/
def ColsIn (H H' : Hp) (v : V) : Prop := ∃ (p : Addr) (ts : List (Addr × List Int)) (n : Nat), v = .ref p ∧ NewG H p ts ∧ GridAt H' p ts ∧ Cols n ts
def colsB (n : Nat) (rs : List (List Int)) : Bool := decide (0 < rs.length) && (decide (rs.length ≤ 3) && (decide (0 < n) && (decide (n ≤ 4) && rs.all fun r => decide (r.length = n) && r.all fun z => decide (0 ≤ z) && decide (z < (n : Int)))))
theorem mkCols {H H' : Hp} (p : Addr) (ts : List (Addr × List Int)) (n : Nat) (hp : H p = none) (hr : ∀ t ∈ ts, H t.1 = none) (gt : H' p = some (.lst (ts.map fun t => V.ref t.1))) (gr : ∀ t ∈ ts, H' t.1 = some (.lst (t.2.map V.int))) (c : colsB n (ts.map (·.2)) = true) : ColsIn H H' (.ref p) := by
  refine ⟨p, ts, n, rfl, ⟨hp, hr⟩, ⟨gt, gr⟩, ?_⟩
  unfold colsB at c
  rw [Bool.and_eq_true, Bool.and_eq_true, Bool.and_eq_true, Bool.and_eq_true, List.length_map] at c
  obtain ⟨c1, c2, c3, c4, c5⟩ := c
  refine ⟨of_decide_eq_true c1, of_decide_eq_true c2, of_decide_eq_true c3, of_decide_eq_true c4, fun t ht => ?_⟩
  have q := List.all_eq_true.mp c5 t.2 (List.mem_map.mpr ⟨t, ht, rfl⟩)
  rw [Bool.and_eq_true] at q
  refine ⟨of_decide_eq_true q.1, fun z hz => ?_⟩
  have u := List.all_eq_true.mp q.2 z hz
  rw [Bool.and_eq_true] at u
  exact ⟨of_decide_eq_true u.1, of_decide_eq_true u.2⟩
theorem pick4' {a b c d v : V} {k : Nat} {P : V → Prop} (q : [a, b, c, d][k]? = some v) (ha : P a) (hb : P b) (hc : P c) (hd : P d) : P v := by
  match k, q with
  | 0, q => exact (Option.some.inj q) ▸ ha
  | 1, q => exact (Option.some.inj q) ▸ hb
  | 2, q => exact (Option.some.inj q) ▸ hc
  | 3, q => exact (Option.some.inj q) ▸ hd
  | n + 4, q => simp at q
def spColsOf : Sp := fun vs H Q _ => ∃ (d l : Addr) (which : Int) (n : Nat), vs = [.ref d, .int which, .int (n : Int)] ∧ 0 < n ∧ n ≤ 4 ∧ DealAt H d l ∧ ∀ (H' : Hp) (v : V), DealAt H' d l → SB d l H H' → ColsIn H H' v → Q v H'
section
variable {P : Program} {w : World} {K : PySem.W.Frag} {mg : Str → Option Value} {base : Heap}
theorem ok_cols_of {f fa fo fm : Addr} {fd fda fdo fdm : FuncData} (A0 : Df K mg "_law_columns_of" s_law_columns_of f fd P_law_columns_of) (d_law_any : Df K mg "_law_any" s_law_any fa fda P_law_any) (d_law_of : Df K mg "_law_of" s_law_of fo fdo P_law_of) (d_law_mixed : Df K mg "_law_mixed" s_law_mixed fm fdm P_law_mixed) (T : Txt mg) :
    FnOk P w K mg base CX0 3 f fd P_law_columns_of spColsOf := by
  have G_law_any : FnOk P w K mg base CX0 1 fa fda P_law_any spAny := ok_any d_law_any T
  have G_law_of : FnOk P w K mg base CX0 2 fo fdo P_law_of spOf := ok_of d_law_of d_law_any T
  have G_law_mixed : FnOk P w K mg base CX0 2 fm fdm P_law_mixed (spMixed K) := ok_mixed d_law_mixed d_law_any T
  refine A0.F.ok sc_law_columns_of (fun vs H Q E h => ?_) (fun cdv Ar outer s H vs Q E hr h => ?_)
  · obtain ⟨d, l, which, n, rfl, _⟩ := h
    rfl
  · obtain ⟨d, l, which, n, rfl, n0, n4, D, k⟩ := h
    refine ⟨_, (pss_cons (ps_if (pt_cmpR op_eq (pv 1) pe_int (nomark _)) (pss_one (ps_ret (pe_lc (own := [("turn", 3)]) (g := gName 3) (tt := tYes) rfl sc_law_columns_of.nd (pi_range1 rfl T.range (pa_cons (pe_op op_add pe_int (pe_call G_law_any (hr.mono (by decide)) rfl d_law_any.g d_law_any.F.kp d_law_any.b .nil pass0 (pa_cons (pv 0) (pa_cons pe_int pa_nil)))) pa_nil)) (blkOk_by (N := N_law_columns_of) (sc := defScope s_law_columns_of) (by decide +kernel)) (fun _ _ _ _ _ => (pg_name (i := 3) sc_law_columns_of.nd rfl (Or.inl rfl))) (fun _ _ _ _ _ => pts_nil) (fun _ _ _ _ _ => (pe_call G_law_mixed (hr.mono (by decide)) rfl d_law_mixed.g d_law_mixed.F.kp d_law_mixed.b .nil pass0 (pa_cons (pv 0) (pa_cons (pe_listRg rfl (by rfl) T.list (prg_1 (by rfl) T.range (pv 2))) pa_nil))))))) pss_nil)
    (pss_cons (ps_if (pt_cmpR op_eq (pv 1) pe_int (nomark _)) (pss_cons (ps_set (i := 4) sc_law_columns_of.nd rfl (Or.inl rfl) (pe_op op_cat (pe_lst (pa_cons pe_int pa_nil)) (pe_listRg rfl (by rfl) T.list (prg_1 (by rfl) T.range (pv 2)))))
      (pss_cons (ps_set (i := 5) sc_law_columns_of.nd rfl (Or.inl rfl) (pe_ifExp (pt_cmpR op_lt (pv 2) pe_int (nomark _)) (pe_slice sl_list (pv 4) po_none (po_some (pv 2))) (pe_lc (own := [("to", 6)]) (g := gName 6) (tt := tYes) (te := tIf (tTest (tOp (rI0 fun i j => .bl (decide (i < j))) (tVar 6) (tC (.int 2)))) (tOp (rIxL K) (tLst (tCons (tC (.int 1)) (tCons (tC (.int 0)) tNil))) (tVar 6)) (tVar 6)) rfl sc_law_columns_of.nd (pi_list (pe_slice sl_list (pv 4) po_none (po_some (pv 2)))) (blkOk_by (N := N_law_columns_of) (sc := defScope s_law_columns_of) (by decide +kernel)) (fun _ _ _ _ _ => (pg_name (i := 6) sc_law_columns_of.nd rfl (Or.inl rfl))) (fun _ _ _ _ _ => pts_nil) (fun _ _ _ _ _ => (pe_ifExp (pt_cmpR op_lt (pv 6) pe_int (nomark _)) (pe_ix ix_list (pe_lst (pa_cons pe_int (pa_cons pe_int pa_nil))) (pv 6) (fun _ _ => rfl)) (pv 6))))))
      (pss_one (ps_ret (pe_call G_law_of (hr.mono (by decide)) rfl d_law_of.g d_law_of.F.kp d_law_of.b .nil pass0 (pa_cons (pv 0) (pa_cons (pe_lst (pa_cons (pe_lst (pa_cons (pe_slice sl_list (pv 4) po_none (po_some (pv 2))) (pa_cons (pv 5) pa_nil))) (pa_cons (pe_lst (pa_cons (pe_lst (pa_cons pe_int (pa_cons pe_int (pa_cons pe_int (pa_cons pe_int pa_nil))))) (pa_cons (pe_lst (pa_cons pe_int (pa_cons pe_int (pa_cons pe_int (pa_cons pe_int pa_nil))))) pa_nil))) (pa_cons (pe_lst (pa_cons (pe_op op_rep (pe_lst (pa_cons pe_int pa_nil)) (pv 2)) (pa_cons (pe_op op_rep (pe_lst (pa_cons (pe_op op_sub (pv 2) pe_int) pa_nil)) (pv 2)) pa_nil))) pa_nil)))) pa_nil))))))) pss_nil)
    (pss_cons (ps_if (pt_cmpR op_eq (pv 1) pe_int (nomark _)) (pss_cons (ps_setLc (i := 7) (own := [("turn", 3)]) (g := gName 3) (tt := tYes) rfl sc_law_columns_of.nd rfl rfl (sw_true rfl rfl rfl (by decide +kernel)) (pi_range1 rfl T.range (pa_cons (pe_op op_add pe_int (pe_call G_law_any (hr.mono (by decide)) rfl d_law_any.g d_law_any.F.kp d_law_any.b .nil pass0 (pa_cons (pv 0) (pa_cons pe_int pa_nil)))) pa_nil)) (blkOk_by (N := N_law_columns_of) (sc := defScope s_law_columns_of) (by decide +kernel)) (fun _ _ _ _ _ => (pg_name (i := 3) sc_law_columns_of.nd rfl (Or.inl rfl))) (fun _ _ _ _ _ => pts_nil) (fun _ _ _ _ _ => (pe_call G_law_any (hr.mono (by decide)) rfl d_law_any.g d_law_any.F.kp d_law_any.b .nil pass0 (pa_cons (pv 0) (pa_cons pe_int pa_nil)))))
      (pss_cons (ps_if (pt_cmpR op_eq (pe_call G_law_any (hr.mono (by decide)) rfl d_law_any.g d_law_any.F.kp d_law_any.b .nil pass0 (pa_cons (pv 0) (pa_cons pe_int pa_nil))) pe_int (nomark _)) (pss_one (ps_ret (pe_lc (own := [("add", 9)]) (g := gName 9) (tt := tYes) rfl sc_law_columns_of.nd (pi_list (pv 7)) (blkOk_by (N := N_law_columns_of) (sc := defScope s_law_columns_of) (by decide +kernel)) (fun _ _ _ _ _ => (pg_name (i := 9) sc_law_columns_of.nd rfl (Or.inr rfl))) (fun _ _ _ _ _ => pts_nil) (fun _ _ _ _ _ => (pe_lc (own := [("state", 8)]) (g := gName 8) (tt := tYes) rfl sc_law_columns_of.nd (pi_range1 rfl T.range (pa_cons (pv 2) pa_nil)) (blkOk_by (N := N_law_columns_of) (sc := { kind := .function, names := [(".0", .local), ("add", .cell), ("range", .globalImplicit), ("many", .cell)], isGenerator := false, isCoroutine := false }) (by decide +kernel)) (fun _ _ _ _ _ => (pg_name (i := 8) sc_law_columns_of.nd rfl (Or.inl rfl))) (fun _ _ _ _ _ => pts_nil) (fun _ _ _ _ _ => (pe_callB (call_min2 rfl) (by rfl) T.min (by decide +kernel) (pa_cons (pe_op op_sub (pv 2) pe_int) (pa_cons (pe_op op_add (pv 8) (pv 9)) pa_nil))))))))) pss_nil)
      (pss_one (ps_ret (pe_lc (own := [("add", 9)]) (g := gName 9) (tt := tYes) rfl sc_law_columns_of.nd (pi_list (pv 7)) (blkOk_by (N := N_law_columns_of) (sc := defScope s_law_columns_of) (by decide +kernel)) (fun _ _ _ _ _ => (pg_name (i := 9) sc_law_columns_of.nd rfl (Or.inr rfl))) (fun _ _ _ _ _ => pts_nil) (fun _ _ _ _ _ => (pe_lc (own := [("state", 8)]) (g := gName 8) (tt := tYes) rfl sc_law_columns_of.nd (pi_range1 rfl T.range (pa_cons (pv 2) pa_nil)) (blkOk_by (N := N_law_columns_of) (sc := { kind := .function, names := [(".0", .local), ("add", .cell), ("range", .globalImplicit), ("many", .cell)], isGenerator := false, isCoroutine := false }) (by decide +kernel)) (fun _ _ _ _ _ => (pg_name (i := 8) sc_law_columns_of.nd rfl (Or.inl rfl))) (fun _ _ _ _ _ => pts_nil) (fun _ _ _ _ _ => (pe_callB (call_max2 rfl) (by rfl) T.max (by decide +kernel) (pa_cons (pv 8) (pa_cons (pe_callB (call_min2 rfl) (by rfl) T.min (by decide +kernel) (pa_cons (pv 9) (pa_cons (pe_op op_sub (pv 2) pe_int) pa_nil))) pa_nil))))))))))) pss_nil)
    (pss_cons (ps_if (pt_cmpR op_eq (pv 1) pe_int (nomark _)) (pss_cons (ps_set (i := 10) sc_law_columns_of.nd rfl (Or.inl rfl) (pe_lst (pa_cons (pe_lst (pa_cons (pe_lst (pa_cons pe_int (pa_cons pe_int (pa_cons pe_int pa_nil)))) (pa_cons (pe_lst (pa_cons pe_int (pa_cons pe_int (pa_cons pe_int pa_nil)))) pa_nil))) (pa_cons (pe_lst (pa_cons (pe_lst (pa_cons pe_int (pa_cons pe_int (pa_cons pe_int (pa_cons pe_int pa_nil))))) (pa_cons (pe_lst (pa_cons pe_int (pa_cons pe_int (pa_cons pe_int (pa_cons pe_int pa_nil))))) pa_nil))) (pa_cons (pe_lst (pa_cons (pe_lst (pa_cons pe_int (pa_cons pe_int (pa_cons pe_int pa_nil)))) (pa_cons (pe_lst (pa_cons pe_int (pa_cons pe_int (pa_cons pe_int pa_nil)))) (pa_cons (pe_lst (pa_cons pe_int (pa_cons pe_int (pa_cons pe_int pa_nil)))) pa_nil)))) pa_nil)))))
      (pss_one (ps_ret (pe_call G_law_of (hr.mono (by decide)) rfl d_law_of.g d_law_of.F.kp d_law_of.b .nil pass0 (pa_cons (pv 0) (pa_cons (pe_op op_cat (pv 10) (pe_lst (pa_cons (pe_lst (pa_cons (pe_lst (pa_cons pe_int (pa_cons pe_int (pa_cons pe_int (pa_cons pe_int pa_nil))))) (pa_cons (pe_lst (pa_cons pe_int (pa_cons pe_int (pa_cons pe_int (pa_cons pe_int pa_nil))))) (pa_cons (pe_lst (pa_cons pe_int (pa_cons pe_int (pa_cons pe_int (pa_cons pe_int pa_nil))))) pa_nil)))) pa_nil))) pa_nil)))))) pss_nil)
    (pss_cons (ps_if (pt_cmpR op_eq (pv 1) pe_int (nomark _)) (pss_one (ps_ret (pe_call G_law_of (hr.mono (by decide)) rfl d_law_of.g d_law_of.F.kp d_law_of.b .nil pass0 (pa_cons (pv 0) (pa_cons (pe_lst (pa_cons (pe_lst (pa_cons (pe_lst (pa_cons pe_int (pa_cons pe_int (pa_cons pe_int (pa_cons pe_int pa_nil))))) (pa_cons (pe_lst (pa_cons pe_int (pa_cons pe_int (pa_cons pe_int (pa_cons pe_int pa_nil))))) pa_nil))) (pa_cons (pe_lst (pa_cons (pe_lst (pa_cons pe_int (pa_cons pe_int (pa_cons pe_int (pa_cons pe_int pa_nil))))) (pa_cons (pe_lst (pa_cons pe_int (pa_cons pe_int (pa_cons pe_int (pa_cons pe_int pa_nil))))) pa_nil))) (pa_cons (pe_lst (pa_cons (pe_lst (pa_cons pe_int (pa_cons pe_int (pa_cons pe_int pa_nil)))) (pa_cons (pe_lst (pa_cons pe_int (pa_cons pe_int (pa_cons pe_int pa_nil)))) pa_nil))) pa_nil)))) pa_nil))))) pss_nil)
    (pss_one (ps_ret (pe_lst (pa_cons (pe_lst (pa_cons pe_int (pa_cons pe_int (pa_cons pe_int pa_nil)))) (pa_cons (pe_lst (pa_cons pe_int (pa_cons pe_int (pa_cons pe_int pa_nil)))) pa_nil)))))))))), ?_⟩
    have fin : ∀ (H1 : Hp), DealAt H1 d l → SB d l H H1 → ∀ (rs : Nat) (ts : List (Addr × List Int)) (H' : Hp) (p : Addr), 0 < rs → rs ≤ 3 → ts.length = rs → (∀ (i : Nat) t, ts[i]? = some t → t.2.length = n ∧ ∀ z ∈ t.2, 0 ≤ z ∧ z < (n : Int)) → NewG H1 p ts → GridAt H' p ts → DealAt H' d l → SB d l H1 H' → Q (.ref p) H' := fun H1 D1 S1 rs ts H' p r0 r3 hl ht hN hG D' S' =>
      k H' _ D' (S1.trans S') ⟨p, ts, n, rfl, hN.back S1.kp (D1.free hN.top) (fun t ht' => D1.free (hN.row t ht')), hG, by omega, by omega, n0, n4, fun t ht' => by
        obtain ⟨i, hi⟩ := List.getElem?_of_mem ht'
        exact ht i t hi⟩
    refine ⟨_, rfl, rfl, _, rfl, ite2 (fun _ => ?_) (fun _ => ?_)⟩
    · refine ⟨_, rfl, d, l, 3, rfl, by decide, by decide, D, fun H1 r D1 S1 r0 r1 => ⟨_, _, rfl, rfl, 1 + r, rfl, by omega, by omega, fun D0 hD0 => ?_⟩⟩
      refine lcGR (fun _ r => r.length = n ∧ ∀ z ∈ r, 0 ≤ z ∧ z < (n : Int)) hD0 D1 (by omega) (fun i U hi x kU Q' kQ => ?_) (fun ts H' hl ht hN hG D' S' => fin H1 D1 S1 _ ts H' D0 (by omega) (by omega) hl ht hN hG D' S')
      refine ⟨_, rfl, _, rfl, (n : Int), rfl, RgOk.of_le (by decide) (by omega) (by decide) (by omega), fun q hq => ?_⟩
      refine ⟨d, l, q, (List.range n).map fun i => ((i : Nat) : Int), rfl, SqL.of ?_, by simp; omega, x.new hq, fun H' p ms x' k1 h1 h2 h3 => ?_⟩
      · rw [upd_same]
        unfold rgV
        rw [List.map_map]
        simp
      · refine kQ p ms H' x' ((SB.new hq).trans k1) (KP.free (S := dl d l) (KP.new hq) ((x.new hq).free h1) h1) h2 ⟨by rw [h3.length_eq]; simp, fun z hz => ?_⟩
        obtain ⟨i, hi, rfl⟩ := List.mem_map.mp (h3.mem_iff.mp hz)
        have := List.mem_range.mp hi
        omega
    refine ⟨_, rfl, rfl, _, rfl, ite2 (fun _ => ?_) (fun _ => ?_)⟩
    · refine ⟨by show 1 ≤ sizeLine; decide, fun a1 h1 => ⟨_, rfl, (n : Int), rfl, RgOk.of_le (by decide) (by omega) (by decide) (by omega), fun a2 h2 => ⟨a1, a2, _, _, rfl, rfl, nk upd_same h2, upd_same, ?_, fun a3 h3 => ?_⟩⟩⟩
      · unfold rgV
        exact Nat.le_trans (show _ ≤ 5 by simp; omega) (by decide)
      obtain ⟨fl, efl⟩ : ∃ fl : List Int, fl = 0 :: (List.range n).map fun i => ((i : Nat) : Int) := ⟨_, rfl⟩
      have eh : ([V.int 0] ++ rgV 0 (n : Int)) = fl.map V.int := by
        rw [efl]
        unfold rgV
        rw [List.map_cons, List.map_map]
        simp
      have hq3 : ∀ {x}, upd (upd (upd H a1 (HO.lst [V.int 0])) a2 (HO.lst (rgV 0 (n : Int)))) a3 (HO.lst ([V.int 0] ++ rgV 0 (n : Int))) a3 = some x ↔ HO.lst (fl.map V.int) = x := fun {x} => by
        rw [upd_same, eh]
        exact ⟨fun e => Option.some.inj e, fun e => by rw [e]⟩
      have fl5 : fl.length = n + 1 := by
        rw [efl]
        simp
      have flb : ∀ z ∈ fl.take n, 0 ≤ z ∧ z < (n : Int) := fun z hz => by
        rw [efl] at hz
        obtain ⟨i, hi, e⟩ := List.mem_iff_getElem?.mp hz |>.elim fun i h => (⟨i, by
          have := (List.getElem?_eq_some_iff.mp h).1
          rw [List.length_take] at this
          omega, h⟩ : ∃ i, i < n ∧ (((0 : Int) :: (List.range n).map fun i => ((i : Nat) : Int)).take n)[i]? = some z)
        rw [List.getElem?_take, if_pos hi] at e
        cases i with
        | zero =>
          have e' : (0 : Int) = z := Option.some.inj e
          omega
        | succ j =>
          rw [List.getElem?_cons_succ, List.getElem?_map, List.getElem?_range (by omega)] at e
          have e' : ((j : Nat) : Int) = z := Option.some.inj e
          omega
      have n1 := D.free h1
      have D1 := D.new (o := HO.lst [V.int 0]) h1
      have n2 := D1.free h2
      have D2 := D1.new (o := HO.lst (rgV 0 (n : Int))) h2
      have n3 := D2.free h3
      have S2 : SB d l H _ := (SB.new (o := HO.lst [V.int 0]) h1).trans (SB.new (o := HO.lst (rgV 0 (n : Int))) h2)
      have D3 := D2.new (o := HO.lst ([V.int 0] ++ rgV 0 (n : Int))) h3
      have S3 : SB d l H _ := S2.trans (SB.new (o := HO.lst ([V.int 0] ++ rgV 0 (n : Int))) h3)
      obtain ⟨H3, eH3⟩ : ∃ U, U = upd (upd (upd H a1 (HO.lst [V.int 0])) a2 (HO.lst (rgV 0 (n : Int)))) a3 (HO.lst ([V.int 0] ++ rgV 0 (n : Int))) := ⟨_, rfl⟩
      rw [← eH3] at D3 S3 hq3
      have g3 : H3 a3 = some (.lst (fl.map V.int)) := hq3.mpr rfl
      refine joinName (by with_reducible rfl) (fun v H' => ∃ (b : Addr) (ns : List Int), v = .ref b ∧ DealAt H' d l ∧ SB d l H3 H' ∧ H3 b = none ∧ H' b = some (.lst (ns.map V.int)) ∧ ns.length = n ∧ ∀ z ∈ ns, 0 ≤ z ∧ z < (n : Int)) (fun Q' kQ => ?_) (fun v H4 hR => ?_)
      · rw [← eH3]
        have ct : cutV (fl.map V.int) none (some (n : Int)) = (fl.take n).map V.int := by
          rw [cut_to (by rw [List.length_map, fl5]; omega), List.map_take]
        refine ⟨_, rfl, _, _, rfl, rfl, _, rfl, ite2 (fun _ => ?_) (fun hn2 => ?_)⟩
        · refine ⟨_, rfl, _, rfl, (n : Int), rfl, a3, _, rfl, SqL.of g3, fun p hp => kQ _ _ ⟨p, fl.take n, rfl, D3.new hp, SB.new hp, hp, by rw [upd_same, ct], by rw [List.length_take, fl5]; omega, flb⟩⟩
        · have h2 : ¬ ((n : Int) < 2) := fun q => hn2 (decide_eq_true q)
          refine ⟨_, rfl, _, rfl, (n : Int), rfl, a3, _, rfl, SqL.of g3, fun p hp => ?_⟩
          rw [ct]
          have Dp := D3.new (o := HO.lst ((fl.take n).map V.int)) hp
          have np := D3.free hp
          refine ⟨p, rfl, ⟨_, SqL.of upd_same⟩, fun D0 hD0 => ?_⟩
          have nD0 := Dp.free hD0
          have lt : (fl.take n).length = n := by rw [List.length_take, fl5]; omega
          refine lcL (K := K) (xs := (fl.take n).map V.int) (dl d l) (fun U => DealAt U d l) (fun _ y _ => ∃ z : Int, y = .int z ∧ 0 ≤ z ∧ z < (n : Int)) hD0 nD0 (by rw [List.length_map]; omega) Dp (fun U o x => x.upd nD0) (fun _ _ _ _ _ x => x) (fun U kU => SqL.of (kU.get np upd_same)) (fun i x U acc hx xU kU _ Q' kQ => ?_) (fun ys H' hl hf hD' x k1 => ?_)
          · obtain ⟨z, hz1, rfl⟩ := get_int hx
            have hzb := flb z (mem_of_get hz1)
            refine ⟨_, rfl, _, _, rfl, rfl, _, rfl, ite2 (fun hz2 => ?_) (fun _ => ⟨_, rfl, kQ _ _ xU (KP.refl _ _) ⟨z, rfl, hzb⟩⟩)⟩
            have hz3 : z < 2 := of_decide_eq_true hz2
            refine ⟨by show 2 ≤ sizeLine; decide, fun b hb => ⟨_, rfl, b, _, z, V.int (1 - z), rfl, rfl, SqL.of upd_same, ?_, kQ _ _ (xU.new hb) (KP.new hb) ⟨1 - z, rfl, by omega, by omega⟩⟩⟩
            by_cases z0 : z = 0
            · rw [z0] <;> rfl
            · have z1 : z = 1 := by omega
              rw [z1] <;> rfl
          · obtain ⟨ts, rfl, ht⟩ := collect (g := V.int) hf
            rw [List.length_map, List.length_map, lt] at hl
            have Sp : SB d l H3 H' := (SB.new (o := HO.lst ((fl.take n).map V.int)) hp).trans k1.sb
            exact kQ _ _ ⟨D0, ts, rfl, x, Sp, ff hp hD0, hD', hl, all_of_get ht⟩
      obtain ⟨b, ns, rfl, D4, S4, b0, hb, hl, hnb⟩ := hR
      have nb := D3.free b0
      have g4 := S4.kp.get n3 g3
      have S04 := S3.trans S4
      have fb : H b = none := S3.kp.free nb b0
      have ct : cutV (fl.map V.int) none (some (n : Int)) = (fl.take n).map V.int := by
        rw [cut_to (by rw [List.length_map, fl5]; omega), List.map_take]
      refine ⟨_, rfl, _, rfl, _, rfl, (n : Int), rfl, a3, _, rfl, SqL.of g4, fun q10 h10 => ⟨_, rfl, by show 2 ≤ sizeLine; decide, fun q11 h11 => ⟨by show 4 ≤ sizeLine; decide, fun q12 h12 => ⟨by show 4 ≤ sizeLine; decide, fun q13 h13 => ⟨by show 2 ≤ sizeLine; decide, fun q14 h14 => ⟨by show 1 ≤ sizeLine; decide, fun q15 h15 => ⟨_, rfl, q15, (n : Int), _, rfl, rfl, upd_same, by omega, by omega, Nat.le_trans (show 1 * ((n : Int)).toNat ≤ 1000 by omega) (by decide), fun q16 h16 => ⟨_, rfl, _, _, rfl, rfl, by show 1 ≤ sizeLine; decide, fun q17 h17 => ⟨_, rfl, q17, (n : Int), _, rfl, rfl, upd_same, by omega, by omega, Nat.le_trans (show 1 * ((n : Int)).toNat ≤ 1000 by omega) (by decide), fun q18 h18 => ⟨by show 2 ≤ sizeLine; decide, fun q19 h19 => ⟨by show 3 ≤ sizeLine; decide, fun q20 h20 => ?_⟩⟩⟩⟩⟩⟩⟩⟩⟩⟩⟩
      have n10 : ¬ dl d l q10 := D4.free h10
      have f10 : H q10 = none := S04.kp.free n10 h10
      have D10 := D4.new (o := HO.lst (cutV (fl.map V.int) none (some (n : Int)))) h10
      have S10 := S04.trans (SB.new (o := HO.lst (cutV (fl.map V.int) none (some (n : Int)))) h10)
      have n11 : ¬ dl d l q11 := D10.free h11
      have f11 : H q11 = none := S10.kp.free n11 h11
      have D11 := D10.new (o := HO.lst [V.ref q10, V.ref b]) h11
      have S11 := S10.trans (SB.new (o := HO.lst [V.ref q10, V.ref b]) h11)
      have n12 : ¬ dl d l q12 := D11.free h12
      have f12 : H q12 = none := S11.kp.free n12 h12
      have D12 := D11.new (o := HO.lst [V.int 0, V.int 2, V.int 0, V.int 2]) h12
      have S12 := S11.trans (SB.new (o := HO.lst [V.int 0, V.int 2, V.int 0, V.int 2]) h12)
      have n13 : ¬ dl d l q13 := D12.free h13
      have f13 : H q13 = none := S12.kp.free n13 h13
      have D13 := D12.new (o := HO.lst [V.int 1, V.int 3, V.int 1, V.int 3]) h13
      have S13 := S12.trans (SB.new (o := HO.lst [V.int 1, V.int 3, V.int 1, V.int 3]) h13)
      have n14 : ¬ dl d l q14 := D13.free h14
      have f14 : H q14 = none := S13.kp.free n14 h14
      have D14 := D13.new (o := HO.lst [V.ref q12, V.ref q13]) h14
      have S14 := S13.trans (SB.new (o := HO.lst [V.ref q12, V.ref q13]) h14)
      have n15 : ¬ dl d l q15 := D14.free h15
      have f15 : H q15 = none := S14.kp.free n15 h15
      have D15 := D14.new (o := HO.lst [V.int 0]) h15
      have S15 := S14.trans (SB.new (o := HO.lst [V.int 0]) h15)
      have n16 : ¬ dl d l q16 := D15.free h16
      have f16 : H q16 = none := S15.kp.free n16 h16
      have D16 := D15.new (o := HO.lst (List.replicate ((n : Int)).toNat [V.int 0]).flatten) h16
      have S16 := S15.trans (SB.new (o := HO.lst (List.replicate ((n : Int)).toNat [V.int 0]).flatten) h16)
      have n17 : ¬ dl d l q17 := D16.free h17
      have f17 : H q17 = none := S16.kp.free n17 h17
      have D17 := D16.new (o := HO.lst [V.int ((n : Int) - 1)]) h17
      have S17 := S16.trans (SB.new (o := HO.lst [V.int ((n : Int) - 1)]) h17)
      have n18 : ¬ dl d l q18 := D17.free h18
      have f18 : H q18 = none := S17.kp.free n18 h18
      have D18 := D17.new (o := HO.lst (List.replicate ((n : Int)).toNat [V.int ((n : Int) - 1)]).flatten) h18
      have S18 := S17.trans (SB.new (o := HO.lst (List.replicate ((n : Int)).toNat [V.int ((n : Int) - 1)]).flatten) h18)
      have n19 : ¬ dl d l q19 := D18.free h19
      have f19 : H q19 = none := S18.kp.free n19 h19
      have D19 := D18.new (o := HO.lst [V.ref q16, V.ref q18]) h19
      have S19 := S18.trans (SB.new (o := HO.lst [V.ref q16, V.ref q18]) h19)
      have n20 : ¬ dl d l q20 := D19.free h20
      have f20 : H q20 = none := S19.kp.free n20 h20
      have D20 := D19.new (o := HO.lst [V.ref q11, V.ref q14, V.ref q19]) h20
      have S20 := S19.trans (SB.new (o := HO.lst [V.ref q11, V.ref q14, V.ref q19]) h20)
      refine ⟨d, l, q20, _, rfl, upd_same, n20, by show 0 < 3; decide, by show 3 ≤ 1000; decide, D20, fun U i v DU SU hi => ?_⟩
      have gs := SU.kp.get n10 (nk (nk (nk (nk (nk (nk (nk (nk (nk (nk upd_same h11) h12) h13) h14) h15) h16) h17) h18) h19) h20)
      rw [ct] at gs
      have gb : U b = some (.lst (ns.map V.int)) := SU.kp.get nb (nk (nk (nk (nk (nk (nk (nk (nk (nk (nk (nk hb h10) h11) h12) h13) h14) h15) h16) h17) h18) h19) h20)
      have gr1 := SU.kp.get n16 (nk (nk (nk (nk upd_same h17) h18) h19) h20)
      have gr2 := SU.kp.get n18 (nk (nk upd_same h19) h20)
      rw [flat_rep] at gr1 gr2
      have zn : ((n : Int)).toNat = n := Int.toNat_natCast n
      rw [zn] at gr1 gr2
      have cols : ∀ (p x y : Addr) (r s : List Int), H p = none → H x = none → H y = none → U p = some (.lst [.ref x, .ref y]) → U x = some (.lst (r.map V.int)) → U y = some (.lst (s.map V.int)) → r.length = n → s.length = n → (∀ z ∈ r, 0 ≤ z ∧ z < (n : Int)) → (∀ z ∈ s, 0 ≤ z ∧ z < (n : Int)) → ColsIn H U (.ref p) := fun p x y r s hp hx hy gp gx gy lr ls br bs =>
        ⟨p, [(x, r), (y, s)], n, rfl, ⟨hp, by simp only [List.forall_mem_cons]; exact ⟨hx, hy, fun _ h => by cases h⟩⟩, ⟨gp, by simp only [List.forall_mem_cons]; exact ⟨gx, gy, fun _ h => by cases h⟩⟩, by show 0 < 2; decide, by show 2 ≤ 3; decide, n0, n4, by simp only [List.forall_mem_cons]; exact ⟨⟨lr, br⟩, ⟨ls, bs⟩, fun _ h => by cases h⟩⟩
      exact k U v DU (S20.trans SU) (pick3 (P := fun v => ColsIn H U v) hi (cols q11 q10 b (fl.take n) ns f11 f10 fb (SU.kp.get n11 (nk (nk (nk (nk (nk (nk (nk (nk (nk upd_same h12) h13) h14) h15) h16) h17) h18) h19) h20)) gs gb (by rw [List.length_take, fl5]; omega) hl flb hnb) (mkCols q14 [(q12, [0, 2, 0, 2]), (q13, [1, 3, 1, 3])] 4 f14 (by simp only [List.forall_mem_cons]; exact ⟨f12, f13, fun _ h => by cases h⟩) (SU.kp.get n14 (nk (nk (nk (nk (nk (nk upd_same h15) h16) h17) h18) h19) h20)) (by simp only [List.forall_mem_cons]; exact ⟨(SU.kp.get n12 (nk (nk (nk (nk (nk (nk (nk (nk upd_same h13) h14) h15) h16) h17) h18) h19) h20)), (SU.kp.get n13 (nk (nk (nk (nk (nk (nk (nk upd_same h14) h15) h16) h17) h18) h19) h20)), fun _ h => by cases h⟩) (show colsB 4 [[0, 2, 0, 2], [1, 3, 1, 3]] = true by decide +kernel)) (cols q19 q16 q18 (List.replicate n 0) (List.replicate n ((n : Int) - 1)) f19 f16 f18 (SU.kp.get n19 (nk upd_same h20)) (by rw [gr1, List.map_replicate]) (by rw [gr2, List.map_replicate]) (by simp) (by simp) (fun z hz => by rw [List.eq_of_mem_replicate hz]; omega) (fun z hz => by rw [List.eq_of_mem_replicate hz]; omega)))
    refine ⟨_, rfl, rfl, _, rfl, ite2 (fun _ => ?_) (fun _ => ?_)⟩
    · refine ⟨_, rfl, d, l, 3, rfl, by decide, by decide, D, fun H1 r D1 S1 r0 r1 => ⟨_, _, rfl, rfl, 1 + r, rfl, by omega, by omega, fun D0 hD0 => ?_⟩⟩
      refine lcI (fun _ z => 0 ≤ z ∧ z < 3) hD0 D1 (by omega) (fun i U hi x kU Q' kQ => ⟨_, rfl, d, l, 3, rfl, by decide, by decide, x, fun U' z x' s' z0 z1 => kQ z U' x' s' ⟨z0, z1⟩⟩) (fun ns H2 hl hz hD2 D2 S2 => ?_)
      have hz' := all_of_get hz
      have nD0 : ¬ dl d l D0 := D1.free hD0
      refine ⟨_, rfl, d, l, 2, rfl, by decide, by decide, D2, fun H3 r3 D3 S3 _ _ => ⟨rfl, _, rfl, ite2 (fun _ => ?_) (fun _ => ?_)⟩⟩ <;>
      · refine ⟨_, rfl, D0, rfl, ⟨_, SqL.of (S3.kp.get nD0 hD2)⟩, fun D4 hD4 => ?_⟩
        refine lcGL (K := K) (xs := ns.map V.int) (fun _ r => r.length = n ∧ ∀ z ∈ r, 0 ≤ z ∧ z < (n : Int)) hD4 D3 (by rw [List.length_map]; omega) (fun U kU => SqL.of (kU.kp.get nD0 (S3.kp.get nD0 hD2))) (fun i x U hx xU kU Q' kQ => ?_) (fun ts H' hl2 ht hN hG D' S' => fin H3 D3 ((S1.trans S2).trans S3) _ ts H' D4 (by rw [List.length_map]; omega) (by rw [List.length_map]; omega) hl2 ht hN hG D' S')
        obtain ⟨z, hz1, rfl⟩ : ∃ c, ns[i]? = some c ∧ V.int c = x := by
          rw [List.getElem?_map] at hx
          cases e : ns[i]? with
          | none => rw [e] at hx; cases hx
          | some c => rw [e] at hx; exact ⟨c, rfl, Option.some.inj hx⟩
        have hzb := hz' z (mem_of_get hz1)
        refine ⟨_, rfl, (n : Int), rfl, by omega, by omega, fun D5 hD5 => lcI (fun _ z => 0 ≤ z ∧ z < (n : Int)) hD5 xU (by omega) (fun i U hi x _ Q kQ => ?_) (fun ns H' hl hz hD x k1 => kQ D5 ns H' x k1 hD5 hD ⟨by omega, all_of_get hz⟩)⟩
        first
        | refine ⟨_, rfl, _, _, rfl, rfl, _, rfl, _, rfl, _, _, rfl, rfl, _, _, rfl, kQ _ _ x (SB.refl _ _ _) ?_⟩
          exact ⟨by split <;> omega, by split <;> omega⟩
        | refine ⟨_, rfl, _, rfl, _, rfl, _, _, rfl, rfl, _, _, rfl, _, _, rfl, kQ _ _ x (SB.refl _ _ _) ?_⟩
          exact ⟨by (repeat' split) <;> omega, by (repeat' split) <;> omega⟩
    refine ⟨_, rfl, rfl, _, rfl, ite2 (fun _ => ?_) (fun _ => ?_)⟩
    · skip
      refine ⟨by show 3 ≤ sizeLine; decide, fun q1 h1 => ⟨by show 3 ≤ sizeLine; decide, fun q2 h2 => ⟨by show 2 ≤ sizeLine; decide, fun q3 h3 => ⟨by show 4 ≤ sizeLine; decide, fun q4 h4 => ⟨by show 4 ≤ sizeLine; decide, fun q5 h5 => ⟨by show 2 ≤ sizeLine; decide, fun q6 h6 => ⟨by show 3 ≤ sizeLine; decide, fun q7 h7 => ⟨by show 3 ≤ sizeLine; decide, fun q8 h8 => ⟨by show 3 ≤ sizeLine; decide, fun q9 h9 => ⟨by show 3 ≤ sizeLine; decide, fun q10 h10 => ⟨by show 3 ≤ sizeLine; decide, fun q11 h11 => ⟨_, rfl, _, rfl, by show 4 ≤ sizeLine; decide, fun q12 h12 => ⟨by show 4 ≤ sizeLine; decide, fun q13 h13 => ⟨by show 4 ≤ sizeLine; decide, fun q14 h14 => ⟨by show 3 ≤ sizeLine; decide, fun q15 h15 => ⟨by show 1 ≤ sizeLine; decide, fun q16 h16 => ⟨q11, q16, _, _, rfl, rfl, (nk (nk (nk (nk (nk upd_same h12) h13) h14) h15) h16), upd_same, by show 4 ≤ sizeLine; decide, fun q17 h17 => ?_⟩⟩⟩⟩⟩⟩⟩⟩⟩⟩⟩⟩⟩⟩⟩⟩⟩
      have n1 : ¬ dl d l q1 := D.free h1
      have f1 : H q1 = none := (SB.refl d l H).kp.free n1 h1
      have D1 := D.new (o := HO.lst [V.int 2, V.int 0, V.int 2]) h1
      have S1 := (SB.refl d l H).trans (SB.new (o := HO.lst [V.int 2, V.int 0, V.int 2]) h1)
      have n2 : ¬ dl d l q2 := D1.free h2
      have f2 : H q2 = none := S1.kp.free n2 h2
      have D2 := D1.new (o := HO.lst [V.int 2, V.int 1, V.int 2]) h2
      have S2 := S1.trans (SB.new (o := HO.lst [V.int 2, V.int 1, V.int 2]) h2)
      have n3 : ¬ dl d l q3 := D2.free h3
      have f3 : H q3 = none := S2.kp.free n3 h3
      have D3 := D2.new (o := HO.lst [V.ref q1, V.ref q2]) h3
      have S3 := S2.trans (SB.new (o := HO.lst [V.ref q1, V.ref q2]) h3)
      have n4 : ¬ dl d l q4 := D3.free h4
      have f4 : H q4 = none := S3.kp.free n4 h4
      have D4 := D3.new (o := HO.lst [V.int 1, V.int 3, V.int 2, V.int 2]) h4
      have S4 := S3.trans (SB.new (o := HO.lst [V.int 1, V.int 3, V.int 2, V.int 2]) h4)
      have n5 : ¬ dl d l q5 := D4.free h5
      have f5 : H q5 = none := S4.kp.free n5 h5
      have D5 := D4.new (o := HO.lst [V.int 0, V.int 2, V.int 1, V.int 1]) h5
      have S5 := S4.trans (SB.new (o := HO.lst [V.int 0, V.int 2, V.int 1, V.int 1]) h5)
      have n6 : ¬ dl d l q6 := D5.free h6
      have f6 : H q6 = none := S5.kp.free n6 h6
      have D6 := D5.new (o := HO.lst [V.ref q4, V.ref q5]) h6
      have S6 := S5.trans (SB.new (o := HO.lst [V.ref q4, V.ref q5]) h6)
      have n7 : ¬ dl d l q7 := D6.free h7
      have f7 : H q7 = none := S6.kp.free n7 h7
      have D7 := D6.new (o := HO.lst [V.int 0, V.int 0, V.int 0]) h7
      have S7 := S6.trans (SB.new (o := HO.lst [V.int 0, V.int 0, V.int 0]) h7)
      have n8 : ¬ dl d l q8 := D7.free h8
      have f8 : H q8 = none := S7.kp.free n8 h8
      have D8 := D7.new (o := HO.lst [V.int 2, V.int 2, V.int 0]) h8
      have S8 := S7.trans (SB.new (o := HO.lst [V.int 2, V.int 2, V.int 0]) h8)
      have n9 : ¬ dl d l q9 := D8.free h9
      have f9 : H q9 = none := S8.kp.free n9 h9
      have D9 := D8.new (o := HO.lst [V.int 0, V.int 0, V.int 1]) h9
      have S9 := S8.trans (SB.new (o := HO.lst [V.int 0, V.int 0, V.int 1]) h9)
      have n10 : ¬ dl d l q10 := D9.free h10
      have f10 : H q10 = none := S9.kp.free n10 h10
      have D10 := D9.new (o := HO.lst [V.ref q7, V.ref q8, V.ref q9]) h10
      have S10 := S9.trans (SB.new (o := HO.lst [V.ref q7, V.ref q8, V.ref q9]) h10)
      have n11 : ¬ dl d l q11 := D10.free h11
      have f11 : H q11 = none := S10.kp.free n11 h11
      have D11 := D10.new (o := HO.lst [V.ref q3, V.ref q6, V.ref q10]) h11
      have S11 := S10.trans (SB.new (o := HO.lst [V.ref q3, V.ref q6, V.ref q10]) h11)
      have n12 : ¬ dl d l q12 := D11.free h12
      have f12 : H q12 = none := S11.kp.free n12 h12
      have D12 := D11.new (o := HO.lst [V.int 1, V.int 0, V.int 0, V.int 0]) h12
      have S12 := S11.trans (SB.new (o := HO.lst [V.int 1, V.int 0, V.int 0, V.int 0]) h12)
      have n13 : ¬ dl d l q13 := D12.free h13
      have f13 : H q13 = none := S12.kp.free n13 h13
      have D13 := D12.new (o := HO.lst [V.int 3, V.int 1, V.int 2, V.int 1]) h13
      have S13 := S12.trans (SB.new (o := HO.lst [V.int 3, V.int 1, V.int 2, V.int 1]) h13)
      have n14 : ¬ dl d l q14 := D13.free h14
      have f14 : H q14 = none := S13.kp.free n14 h14
      have D14 := D13.new (o := HO.lst [V.int 2, V.int 2, V.int 2, V.int 2]) h14
      have S14 := S13.trans (SB.new (o := HO.lst [V.int 2, V.int 2, V.int 2, V.int 2]) h14)
      have n15 : ¬ dl d l q15 := D14.free h15
      have f15 : H q15 = none := S14.kp.free n15 h15
      have D15 := D14.new (o := HO.lst [V.ref q12, V.ref q13, V.ref q14]) h15
      have S15 := S14.trans (SB.new (o := HO.lst [V.ref q12, V.ref q13, V.ref q14]) h15)
      have n16 : ¬ dl d l q16 := D15.free h16
      have f16 : H q16 = none := S15.kp.free n16 h16
      have D16 := D15.new (o := HO.lst [V.ref q15]) h16
      have S16 := S15.trans (SB.new (o := HO.lst [V.ref q15]) h16)
      have n17 : ¬ dl d l q17 := D16.free h17
      have f17 : H q17 = none := S16.kp.free n17 h17
      have D17 := D16.new (o := HO.lst ([V.ref q3, V.ref q6, V.ref q10] ++ [V.ref q15])) h17
      have S17 := S16.trans (SB.new (o := HO.lst ([V.ref q3, V.ref q6, V.ref q10] ++ [V.ref q15])) h17)
      refine ⟨d, l, q17, _, rfl, upd_same, n17, by show 0 < 4; decide, by show 4 ≤ 1000; decide, D17, fun U i v DU SU hi => ?_⟩
      exact k U v DU (S17.trans SU) (pick4' (P := fun v => ColsIn H U v) hi (mkCols q3 [(q1, [2, 0, 2]), (q2, [2, 1, 2])] 3 f3 (by simp only [List.forall_mem_cons]; exact ⟨f1, f2, fun _ h => by cases h⟩) (SU.kp.get n3 (nk (nk (nk (nk (nk (nk (nk (nk (nk (nk (nk (nk (nk (nk upd_same h4) h5) h6) h7) h8) h9) h10) h11) h12) h13) h14) h15) h16) h17)) (by simp only [List.forall_mem_cons]; exact ⟨(SU.kp.get n1 (nk (nk (nk (nk (nk (nk (nk (nk (nk (nk (nk (nk (nk (nk (nk (nk upd_same h2) h3) h4) h5) h6) h7) h8) h9) h10) h11) h12) h13) h14) h15) h16) h17)), (SU.kp.get n2 (nk (nk (nk (nk (nk (nk (nk (nk (nk (nk (nk (nk (nk (nk (nk upd_same h3) h4) h5) h6) h7) h8) h9) h10) h11) h12) h13) h14) h15) h16) h17)), fun _ h => by cases h⟩) (show colsB 3 [[2, 0, 2], [2, 1, 2]] = true by decide +kernel)) (mkCols q6 [(q4, [1, 3, 2, 2]), (q5, [0, 2, 1, 1])] 4 f6 (by simp only [List.forall_mem_cons]; exact ⟨f4, f5, fun _ h => by cases h⟩) (SU.kp.get n6 (nk (nk (nk (nk (nk (nk (nk (nk (nk (nk (nk upd_same h7) h8) h9) h10) h11) h12) h13) h14) h15) h16) h17)) (by simp only [List.forall_mem_cons]; exact ⟨(SU.kp.get n4 (nk (nk (nk (nk (nk (nk (nk (nk (nk (nk (nk (nk (nk upd_same h5) h6) h7) h8) h9) h10) h11) h12) h13) h14) h15) h16) h17)), (SU.kp.get n5 (nk (nk (nk (nk (nk (nk (nk (nk (nk (nk (nk (nk upd_same h6) h7) h8) h9) h10) h11) h12) h13) h14) h15) h16) h17)), fun _ h => by cases h⟩) (show colsB 4 [[1, 3, 2, 2], [0, 2, 1, 1]] = true by decide +kernel)) (mkCols q10 [(q7, [0, 0, 0]), (q8, [2, 2, 0]), (q9, [0, 0, 1])] 3 f10 (by simp only [List.forall_mem_cons]; exact ⟨f7, f8, f9, fun _ h => by cases h⟩) (SU.kp.get n10 (nk (nk (nk (nk (nk (nk (nk upd_same h11) h12) h13) h14) h15) h16) h17)) (by simp only [List.forall_mem_cons]; exact ⟨(SU.kp.get n7 (nk (nk (nk (nk (nk (nk (nk (nk (nk (nk upd_same h8) h9) h10) h11) h12) h13) h14) h15) h16) h17)), (SU.kp.get n8 (nk (nk (nk (nk (nk (nk (nk (nk (nk upd_same h9) h10) h11) h12) h13) h14) h15) h16) h17)), (SU.kp.get n9 (nk (nk (nk (nk (nk (nk (nk (nk upd_same h10) h11) h12) h13) h14) h15) h16) h17)), fun _ h => by cases h⟩) (show colsB 3 [[0, 0, 0], [2, 2, 0], [0, 0, 1]] = true by decide +kernel)) (mkCols q15 [(q12, [1, 0, 0, 0]), (q13, [3, 1, 2, 1]), (q14, [2, 2, 2, 2])] 4 f15 (by simp only [List.forall_mem_cons]; exact ⟨f12, f13, f14, fun _ h => by cases h⟩) (SU.kp.get n15 (nk (nk upd_same h16) h17)) (by simp only [List.forall_mem_cons]; exact ⟨(SU.kp.get n12 (nk (nk (nk (nk (nk upd_same h13) h14) h15) h16) h17)), (SU.kp.get n13 (nk (nk (nk (nk upd_same h14) h15) h16) h17)), (SU.kp.get n14 (nk (nk (nk upd_same h15) h16) h17)), fun _ h => by cases h⟩) (show colsB 4 [[1, 0, 0, 0], [3, 1, 2, 1], [2, 2, 2, 2]] = true by decide +kernel)))
    refine ⟨_, rfl, rfl, _, rfl, ite2 (fun _ => ?_) (fun _ => ?_)⟩
    · skip
      refine ⟨_, rfl, by show 4 ≤ sizeLine; decide, fun q1 h1 => ⟨by show 4 ≤ sizeLine; decide, fun q2 h2 => ⟨by show 2 ≤ sizeLine; decide, fun q3 h3 => ⟨by show 4 ≤ sizeLine; decide, fun q4 h4 => ⟨by show 4 ≤ sizeLine; decide, fun q5 h5 => ⟨by show 2 ≤ sizeLine; decide, fun q6 h6 => ⟨by show 3 ≤ sizeLine; decide, fun q7 h7 => ⟨by show 3 ≤ sizeLine; decide, fun q8 h8 => ⟨by show 2 ≤ sizeLine; decide, fun q9 h9 => ⟨by show 3 ≤ sizeLine; decide, fun q10 h10 => ?_⟩⟩⟩⟩⟩⟩⟩⟩⟩⟩
      have n1 : ¬ dl d l q1 := D.free h1
      have f1 : H q1 = none := (SB.refl d l H).kp.free n1 h1
      have D1 := D.new (o := HO.lst [V.int 0, V.int 0, V.int 1, V.int 2]) h1
      have S1 := (SB.refl d l H).trans (SB.new (o := HO.lst [V.int 0, V.int 0, V.int 1, V.int 2]) h1)
      have n2 : ¬ dl d l q2 := D1.free h2
      have f2 : H q2 = none := S1.kp.free n2 h2
      have D2 := D1.new (o := HO.lst [V.int 0, V.int 0, V.int 1, V.int 3]) h2
      have S2 := S1.trans (SB.new (o := HO.lst [V.int 0, V.int 0, V.int 1, V.int 3]) h2)
      have n3 : ¬ dl d l q3 := D2.free h3
      have f3 : H q3 = none := S2.kp.free n3 h3
      have D3 := D2.new (o := HO.lst [V.ref q1, V.ref q2]) h3
      have S3 := S2.trans (SB.new (o := HO.lst [V.ref q1, V.ref q2]) h3)
      have n4 : ¬ dl d l q4 := D3.free h4
      have f4 : H q4 = none := S3.kp.free n4 h4
      have D4 := D3.new (o := HO.lst [V.int 0, V.int 0, V.int 1, V.int 2]) h4
      have S4 := S3.trans (SB.new (o := HO.lst [V.int 0, V.int 0, V.int 1, V.int 2]) h4)
      have n5 : ¬ dl d l q5 := D4.free h5
      have f5 : H q5 = none := S4.kp.free n5 h5
      have D5 := D4.new (o := HO.lst [V.int 1, V.int 1, V.int 0, V.int 3]) h5
      have S5 := S4.trans (SB.new (o := HO.lst [V.int 1, V.int 1, V.int 0, V.int 3]) h5)
      have n6 : ¬ dl d l q6 := D5.free h6
      have f6 : H q6 = none := S5.kp.free n6 h6
      have D6 := D5.new (o := HO.lst [V.ref q4, V.ref q5]) h6
      have S6 := S5.trans (SB.new (o := HO.lst [V.ref q4, V.ref q5]) h6)
      have n7 : ¬ dl d l q7 := D6.free h7
      have f7 : H q7 = none := S6.kp.free n7 h7
      have D7 := D6.new (o := HO.lst [V.int 0, V.int 0, V.int 1]) h7
      have S7 := S6.trans (SB.new (o := HO.lst [V.int 0, V.int 0, V.int 1]) h7)
      have n8 : ¬ dl d l q8 := D7.free h8
      have f8 : H q8 = none := S7.kp.free n8 h8
      have D8 := D7.new (o := HO.lst [V.int 0, V.int 0, V.int 2]) h8
      have S8 := S7.trans (SB.new (o := HO.lst [V.int 0, V.int 0, V.int 2]) h8)
      have n9 : ¬ dl d l q9 := D8.free h9
      have f9 : H q9 = none := S8.kp.free n9 h9
      have D9 := D8.new (o := HO.lst [V.ref q7, V.ref q8]) h9
      have S9 := S8.trans (SB.new (o := HO.lst [V.ref q7, V.ref q8]) h9)
      have n10 : ¬ dl d l q10 := D9.free h10
      have f10 : H q10 = none := S9.kp.free n10 h10
      have D10 := D9.new (o := HO.lst [V.ref q3, V.ref q6, V.ref q9]) h10
      have S10 := S9.trans (SB.new (o := HO.lst [V.ref q3, V.ref q6, V.ref q9]) h10)
      refine ⟨d, l, q10, _, rfl, upd_same, n10, by show 0 < 3; decide, by show 3 ≤ 1000; decide, D10, fun U i v DU SU hi => ?_⟩
      exact k U v DU (S10.trans SU) (pick3 (P := fun v => ColsIn H U v) hi (mkCols q3 [(q1, [0, 0, 1, 2]), (q2, [0, 0, 1, 3])] 4 f3 (by simp only [List.forall_mem_cons]; exact ⟨f1, f2, fun _ h => by cases h⟩) (SU.kp.get n3 (nk (nk (nk (nk (nk (nk (nk upd_same h4) h5) h6) h7) h8) h9) h10)) (by simp only [List.forall_mem_cons]; exact ⟨(SU.kp.get n1 (nk (nk (nk (nk (nk (nk (nk (nk (nk upd_same h2) h3) h4) h5) h6) h7) h8) h9) h10)), (SU.kp.get n2 (nk (nk (nk (nk (nk (nk (nk (nk upd_same h3) h4) h5) h6) h7) h8) h9) h10)), fun _ h => by cases h⟩) (show colsB 4 [[0, 0, 1, 2], [0, 0, 1, 3]] = true by decide +kernel)) (mkCols q6 [(q4, [0, 0, 1, 2]), (q5, [1, 1, 0, 3])] 4 f6 (by simp only [List.forall_mem_cons]; exact ⟨f4, f5, fun _ h => by cases h⟩) (SU.kp.get n6 (nk (nk (nk (nk upd_same h7) h8) h9) h10)) (by simp only [List.forall_mem_cons]; exact ⟨(SU.kp.get n4 (nk (nk (nk (nk (nk (nk upd_same h5) h6) h7) h8) h9) h10)), (SU.kp.get n5 (nk (nk (nk (nk (nk upd_same h6) h7) h8) h9) h10)), fun _ h => by cases h⟩) (show colsB 4 [[0, 0, 1, 2], [1, 1, 0, 3]] = true by decide +kernel)) (mkCols q9 [(q7, [0, 0, 1]), (q8, [0, 0, 2])] 3 f9 (by simp only [List.forall_mem_cons]; exact ⟨f7, f8, fun _ h => by cases h⟩) (SU.kp.get n9 (nk upd_same h10)) (by simp only [List.forall_mem_cons]; exact ⟨(SU.kp.get n7 (nk (nk (nk upd_same h8) h9) h10)), (SU.kp.get n8 (nk (nk upd_same h9) h10)), fun _ h => by cases h⟩) (show colsB 3 [[0, 0, 1], [0, 0, 2]] = true by decide +kernel)))
    refine ⟨by show 3 ≤ sizeLine; decide, fun q1 h1 => ⟨by show 3 ≤ sizeLine; decide, fun q2 h2 => ⟨by show 2 ≤ sizeLine; decide, fun q3 h3 => ?_⟩⟩⟩
    have n1 : ¬ dl d l q1 := D.free h1
    have f1 : H q1 = none := (SB.refl d l H).kp.free n1 h1
    have D1 := D.new (o := HO.lst [V.int 1, V.int 1, V.int 2]) h1
    have S1 := (SB.refl d l H).trans (SB.new (o := HO.lst [V.int 1, V.int 1, V.int 2]) h1)
    have n2 : ¬ dl d l q2 := D1.free h2
    have f2 : H q2 = none := S1.kp.free n2 h2
    have D2 := D1.new (o := HO.lst [V.int 2, V.int 1, V.int 2]) h2
    have S2 := S1.trans (SB.new (o := HO.lst [V.int 2, V.int 1, V.int 2]) h2)
    have n3 : ¬ dl d l q3 := D2.free h3
    have f3 : H q3 = none := S2.kp.free n3 h3
    have D3 := D2.new (o := HO.lst [V.ref q1, V.ref q2]) h3
    have S3 := S2.trans (SB.new (o := HO.lst [V.ref q1, V.ref q2]) h3)
    exact k _ _ D3 S3 (mkCols q3 [(q1, [1, 1, 2]), (q2, [2, 1, 2])] 3 f3 (by simp only [List.forall_mem_cons]; exact ⟨f1, f2, fun _ h => by cases h⟩) ((SB.refl d l _).kp.get n3 upd_same) (by simp only [List.forall_mem_cons]; exact ⟨((SB.refl d l _).kp.get n1 (nk (nk upd_same h2) h3)), ((SB.refl d l _).kp.get n2 (nk upd_same h3)), fun _ h => by cases h⟩) (show colsB 3 [[1, 1, 2], [2, 1, 2]] = true by decide +kernel))
end
end Lk

set_option Elab.async false
set_option linter.all false
set_option maxRecDepth 100000
set_option maxHeartbeats 4000000
namespace Lk
open PySem L2
abbrev fCol (p : Addr × List Int) : V := V.ref p.1
theorem lay_ints : ∀ r : List Int, PyData.canLayAll0 (r.map PyData.int) = true ∧ PyData.depthAll (r.map PyData.int) ≤ 0
  | [] => ⟨rfl, by decide⟩
  | z :: r => by
    obtain ⟨h1, h2⟩ := lay_ints r
    refine ⟨?_, ?_⟩
    · show (true && PyData.canLayAll0 (r.map PyData.int)) = true
      rw [h1] <;> rfl
    · show max 0 (PyData.depthAll (r.map PyData.int)) ≤ 0
      omega
theorem lay_rowsL : ∀ rs : List (List Int), PyData.canLayAll0 (rs.map lstP) = true ∧ PyData.depthAll (rs.map lstP) ≤ 1
  | [] => ⟨rfl, by decide⟩
  | r :: rs => by
    obtain ⟨h1, h2⟩ := lay_rowsL rs
    obtain ⟨i1, i2⟩ := lay_ints r
    refine ⟨?_, ?_⟩
    · show (PyData.canLayAll0 (r.map PyData.int) && PyData.canLayAll0 (rs.map lstP)) = true
      rw [i1, h1] <;> rfl
    · show max (PyData.depthAll (r.map PyData.int) + 1) (PyData.depthAll (rs.map lstP)) ≤ 1
      omega
theorem shaped_rowsL (rs : List (List Int)) : SeqAt.shaped (.list (rs.map lstP)) = true := by
  obtain ⟨h1, h2⟩ := lay_rowsL rs
  have e1 : PyData.canLay0 (.list (rs.map lstP)) = true := h1
  have e2 : PyData.depth (.list (rs.map lstP)) = PyData.depthAll (rs.map lstP) + 1 := rfl
  unfold SeqAt.shaped
  rw [e1, Bool.true_and]
  exact decide_eq_true (by omega)
theorem dp_colsL {K : PySem.W.Frag} {H : Hp} : ∀ {ps : List (Addr × List Int)}, (∀ p ∈ ps, H p.1 = some (.lst (p.2.map V.int))) → DpAll K H (ps.map fCol) ((ps.map (·.2)).map lstP)
  | [], _ => .nil
  | p :: ps, h => .cons (.lst (SqL.of (h p List.mem_cons_self)) (dpAll_ints _)) (dp_colsL fun q hq => h q (List.mem_cons_of_mem _ hq))
/-- lists of ints of a list in some order, in a new list -/
def spMixedC (K : PySem.W.Frag) : Sp := fun vs H Q _ => ∃ (d l a : Addr) (ns : List (Addr × List Int)), vs = [.ref d, .ref a] ∧ (SqL K H a (ns.map fCol) ∨ SqT K H a (ns.map fCol)) ∧ ns.length ≤ 1000 ∧ DealAt H d l ∧ (∀ p ∈ ns, ¬ dl d l p.1 ∧ H p.1 = some (.lst (p.2.map V.int))) ∧
  ∀ (H' : Hp) (p : Addr) (ms : List (Addr × List Int)), DealAt H' d l → SB d l H H' → H p = none → H' p = some (.lst (ms.map fCol)) → ms.Perm ns → Q (.ref p) H'
section
variable {P : Program} {w : World} {K : PySem.W.Frag} {mg : Str → Option Value} {base : Heap}
theorem ok_mixedC {f fa : Addr} {fd fda : FuncData} (A0 : Df K mg "_law_mixed" s_law_mixed f fd P_law_mixed) (d_law_any : Df K mg "_law_any" s_law_any fa fda P_law_any) (T : Txt mg) : FnOk P w K mg base CX0 2 f fd P_law_mixed (spMixedC K) := by
  have G_law_any : FnOk P w K mg base CX0 1 fa fda P_law_any spAny := ok_any d_law_any T
  refine A0.F.ok sc_law_mixed (fun vs H Q E h => ?_) (fun cdv A outer s H vs Q E hr h => ?_)
  · obtain ⟨d, l, a, xs, rfl, _⟩ := h
    rfl
  · obtain ⟨d, l, a, ns, rfl, hx, h1, D, hrow, k⟩ := h
    have hu : A.units + 3 + 64 < cLine := by have := hr.un; simp only [Around.deeper] at this; omega
    refine ⟨_, (pss_cons (ps_par (i := 2) (j := 3) rfl sc_law_mixed.nd rfl rfl (by decide) rfl rfl (pa_cons (pe_callTy call_list_of (by rfl) T.list (by decide +kernel) (pa_cons (pv 1) pa_nil)) (pa_cons (pe_lst pa_nil) pa_nil)) rfl)
    (pss_cons (ps_while PassesOwn.never (pt_cmpR (op_neD hu) (pv 2) (pe_lst pa_nil) (nomark _))
      (pss_one (ps_expr (pe_bm PySem.F.plainAttrs_list PySem.F.slot_list_append PySem.F.type_list_append mt_append (pv 3) (pa_cons (pe_bm PySem.F.plainAttrs_list PySem.F.slot_list_pop PySem.F.type_list_pop mt_popAt (pv 2) (pa_cons (pe_call G_law_any (hr.mono (by decide)) rfl d_law_any.g d_law_any.F.kp d_law_any.b .nil pass0 (pa_cons (pv 0) (pa_cons (pe_callB call_len_seq (by rfl) T.len PySem.boot_len (pa_cons (pv 2) pa_nil)) pa_nil))) pa_nil)) pa_nil)))))
    (pss_one (ps_ret (pv 3))))), ?_⟩
    refine ⟨_, rfl, a, _, rfl, hx, fun q hq => ⟨Nat.zero_le _, fun r hr0 => ⟨_, _, rfl, ?_⟩⟩⟩
    have nqr : q ≠ r := fun e => by rw [← e, upd_same] at hr0; cases hr0
    have q0 : H q = none := hq
    have r0 : H r = none := by rw [upd_ne nqr.symm] at hr0; exact hr0
    refine ⟨fun m σ H1 => ∃ ls fs : List (Addr × List Int), σ = [some (.ref d), some (.ref a), some (.ref q), some (.ref r)] ∧ DealAt H1 d l ∧ SB d l H H1 ∧ H1 q = some (.lst (ls.map fCol)) ∧ H1 r = some (.lst (fs.map fCol)) ∧ (fs ++ ls).Perm ns ∧ m = ls.length,
      ⟨_, ns, [], rfl, ?_, ?_, ?_, ?_, List.Perm.refl _, rfl⟩, ?_⟩
    · exact (D.new hq).new hr0
    · exact ((KP.new (S := dl d l) hq).trans (KP.new hr0)).sb
    · rw [upd_ne nqr, upd_same]
    · rw [upd_same]
      rfl
    · rintro m σ H1 ⟨ls, fs, rfl, D1, S1, hq1, hr1, hp, rfl⟩
      have rows : ∀ p ∈ ls, H1 p.1 = some (.lst (p.2.map V.int)) := fun p hp' => by
        obtain ⟨z1, z2⟩ := hrow p (hp.mem_iff.mp (List.mem_append_right _ hp'))
        exact S1.kp.get z1 z2
      refine ⟨_, rfl, Nat.zero_le _, fun z hz => ⟨_, _, Dp.lst (SqL.of (by rw [upd_ne (ne_of_none hq1 hz)]; exact hq1)) (dp_colsL fun p hp' => nk (rows p hp') hz), Dp.lst (SqL.of upd_same) .nil, shaped_rowsL _, by decide +kernel, _, rfl, ?_⟩⟩
      have D2 := D1.new (o := HO.lst []) hz
      have S2 : SB d l H _ := S1.trans (SB.new (o := HO.lst []) hz)
      have hq2 : upd H1 z (HO.lst []) q = some (.lst (ls.map fCol)) := by rw [upd_ne (ne_of_none hq1 hz)]; exact hq1
      have hr2 : upd H1 z (HO.lst []) r = some (.lst (fs.map fCol)) := by rw [upd_ne (ne_of_none hr1 hz)]; exact hr1
      rw [eqv_nil]
      have nq : ¬ dl d l q := D.free q0
      have nr : ¬ dl d l r := D.free r0
      cases ls with
      | nil =>
        refine iteF ?_
        refine ⟨_, rfl, ?_⟩
        rw [List.append_nil] at hp
        exact k _ r fs D2 S2 r0 hr2 hp
      | cons x xs =>
        refine iteT ⟨fun σ' H' => ∃ m', m' < (x :: xs).length ∧ ∃ ls fs : List (Addr × List Int), σ' = [some (.ref d), some (.ref a), some (.ref q), some (.ref r)] ∧ DealAt H' d l ∧ SB d l H H' ∧ H' q = some (.lst (ls.map fCol)) ∧ H' r = some (.lst (fs.map fCol)) ∧ (fs ++ ls).Perm ns ∧ m' = ls.length, fun _ _ h => h, ?_⟩
        have hlen : (x :: xs).length ≤ 1000 := by
          have := hp.length_eq
          rw [List.length_append] at this
          omega
        refine ⟨_, rfl, .inl ⟨rfl, _, SqL.of hr2⟩, _, rfl, .inl ⟨rfl, _, SqL.of hq2⟩, _, rfl, _, rfl, q, _, rfl, .inl (SqL.of hq2), d, l, _, rfl, by rw [List.length_map]; simp, by rw [List.length_map]; omega, D2, fun H3 i D3 S3 i0 i1 => ?_⟩
        rw [List.length_map] at i1
        have hi : i.toNat < (x :: xs).length := by omega
        have hq3 : H3 q = some (.lst ((x :: xs).map fCol)) := S3.kp.get nq hq2
        have hr3 : H3 r = some (.lst (fs.map fCol)) := S3.kp.get nr hr2
        refine ⟨q, _, i, i.toNat, fCol (x :: xs)[i.toNat], rfl, rfl, hq3, by omega, by omega, seqIndex_of i0 (by rw [List.length_map]; exact i1), ?_, ?_⟩
        · rw [List.getElem?_map, List.getElem?_eq_getElem hi]
          rfl
        · refine ⟨r, _, _, rfl, rfl, by rw [upd_ne nqr.symm]; exact hr3, ?_, ?_⟩
          · have := hp.length_eq
            rw [List.length_append] at this
            rw [List.length_map]
            exact Nat.lt_of_le_of_lt (by omega : _ ≤ 1000) (by decide)
          · refine ⟨((x :: xs).eraseIdx i.toNat).length, ?_, (x :: xs).eraseIdx i.toNat, fs ++ [(x :: xs)[i.toNat]], rfl, ?_, ?_, ?_, ?_, ?_, rfl⟩
            · rw [List.length_eraseIdx, if_pos hi]
              omega
            · exact (D3.upd nq).upd nr
            · exact (((S2.trans S3).kp.mut q0).mut r0).sb
            · rw [upd_ne nqr, upd_same, eraseIdx_map]
            · rw [upd_same, List.map_append]
              rfl
            · rw [List.append_assoc]
              refine (List.Perm.append_left fs ?_).trans hp
              exact perm_erase hi
end
end Lk

set_option Elab.async false
set_option linter.all false
set_option maxRecDepth 100000
set_option maxHeartbeats 8000000
namespace Lk
open PySem L2
abbrev s_law_graded : Stmt := top 41
abbrev N_law_graded : List Str := ["deal", "which", "columns", "many", "found", "names", "column", "to", "state"]
abbrev P_law_graded : List Str := ["deal"]
theorem sc_law_graded : FnScope N_law_graded P_law_graded (defScope s_law_graded) := ⟨rfl, rfl, rfl, by decide +kernel, rfl, by decide +kernel, by decide +kernel⟩
/-- a drawn machine of some grade: (commands, steps) -/
def spGraded : Sp := fun vs H Q _ => ∃ (d l : Addr), vs = [.ref d] ∧ DealAt H d l ∧
  ∀ (H' : Hp) (t p : Addr) (A : Nat) (ts : List (Addr × List Int)), DealAt H' d l → SB d l H H' → H t = none → H' t = some (.tup [.int A, .ref p]) → NewG H p ts → GridAt H' p ts → 0 < A → A ≤ 3 → (ts.length : Int) ≤ 4 → RowsOk A ts → Q (.ref t) H'
theorem DealAt.kp {H U : Hp} {d l : Addr} {S : Addr → Prop} (x : DealAt H d l) (k : KP S H U) (h : ∀ a, dl d l a → ¬ S a) : DealAt U d l := by
  obtain ⟨bs, b, y⟩ := x
  exact ⟨bs, b, k _ _ y.hd (h _ (.inl rfl)), k _ _ y.hl (h _ (.inr rfl)), y.pos, y.len, y.b0, y.b1⟩
section
variable {P : Program} {w : World} {K : PySem.W.Frag} {mg : Str → Option Value} {base : Heap}
theorem ok_graded {f fa fo fm fx fc fk : Addr} {fd fda fdo fdm fdx fdc fdk : FuncData} (A0 : Df K mg "_law_graded" s_law_graded f fd P_law_graded) (d_law_any : Df K mg "_law_any" s_law_any fa fda P_law_any) (d_law_of : Df K mg "_law_of" s_law_of fo fdo P_law_of) (d_law_machine : Df K mg "_law_machine" s_law_machine fm fdm P_law_machine)
    (d_law_mixed : Df K mg "_law_mixed" s_law_mixed fx fdx P_law_mixed) (d_law_columns_of : Df K mg "_law_columns_of" s_law_columns_of fc fdc P_law_columns_of) (d_law_columns : Df K mg "_law_columns" s_law_columns fk fdk P_law_columns)
    (G_law_machine : FnOk P w K mg base CX0 4 fm fdm P_law_machine spMachine) (T : Txt mg) : FnOk P w K mg base CX0 5 f fd P_law_graded spGraded := by
  have G_law_any : FnOk P w K mg base CX0 1 fa fda P_law_any spAny := ok_any d_law_any T
  have G_law_columns_of : FnOk P w K mg base CX0 3 fc fdc P_law_columns_of spColsOf := ok_cols_of d_law_columns_of d_law_any d_law_of d_law_mixed T
  have G_law_mixedC : FnOk P w K mg base CX0 2 fx fdx P_law_mixed (spMixedC K) := ok_mixedC d_law_mixed d_law_any T
  have G_law_mixed : FnOk P w K mg base CX0 2 fx fdx P_law_mixed (spMixed K) := ok_mixed d_law_mixed d_law_any T
  have G_law_columns : FnOk P w K mg base CX0 1 fk fdk P_law_columns spColumns := ok_columns d_law_columns T
  refine A0.F.ok sc_law_graded (fun vs H Q E h => ?_) (fun cdv Ar outer s H vs Q E hr h => ?_)
  · obtain ⟨d, l, rfl, _⟩ := h
    rfl
  · obtain ⟨d, l, rfl, D, k⟩ := h
    refine ⟨_, (pss_cons (ps_set (i := 1) sc_law_graded.nd rfl (Or.inl rfl) (pe_call G_law_any (hr.mono (by decide)) rfl d_law_any.g d_law_any.F.kp d_law_any.b .nil pass0 (pa_cons (pv 0) (pa_cons pe_int pa_nil))))
    (pss_cons (ps_if (pt_cmpR op_gt (pv 1) pe_int (nomark _)) (pss_one (ps_ret (pe_call G_law_machine (hr.mono (by decide)) rfl d_law_machine.g d_law_machine.F.kp d_law_machine.b .nil pass0 (pa_cons (pv 0) (pa_cons pe_int pa_nil))))) pss_nil)
    (pss_cons (ps_set (i := 2) sc_law_graded.nd rfl (Or.inl rfl) (pe_call G_law_mixedC (hr.mono (by decide)) rfl d_law_mixed.g d_law_mixed.F.kp d_law_mixed.b .nil pass0 (pa_cons (pv 0) (pa_cons (pe_call G_law_columns_of (hr.mono (by decide)) rfl d_law_columns_of.g d_law_columns_of.F.kp d_law_columns_of.b .nil pass0 (pa_cons (pv 0) (pa_cons (pv 1) (pa_cons (pe_op op_add pe_int (pe_call G_law_any (hr.mono (by decide)) rfl d_law_any.g d_law_any.F.kp d_law_any.b .nil pass0 (pa_cons (pv 0) (pa_cons pe_int pa_nil)))) pa_nil)))) pa_nil))))
    (pss_cons (ps_par (i := 3) (j := 4) rfl sc_law_graded.nd rfl rfl (by decide) rfl rfl (pa_cons (pe_callB call_len_seq (by rfl) T.len PySem.boot_len (pa_cons (pe_ix ix_list (pv 2) pe_int (fun _ _ => rfl)) pa_nil)) (pa_cons (pe_lst pa_nil) pa_nil)) rfl)
    (pss_cons (ps_set (i := 5) sc_law_graded.nd rfl (Or.inl rfl) (pe_call G_law_mixed (hr.mono (by decide)) rfl d_law_mixed.g d_law_mixed.F.kp d_law_mixed.b .nil pass0 (pa_cons (pv 0) (pa_cons (pe_listRg rfl (by rfl) T.list (prg_1 (by rfl) T.range (pv 3))) pa_nil))))
    (pss_cons (ps_for PassesOwn.never rfl (pi_list (pv 2)) (pg_name (i := 6) sc_law_graded.nd rfl (Or.inl rfl))
      (pss_cons (ps_set (i := 7) sc_law_graded.nd rfl (Or.inl rfl) (pe_op op_rep (pe_lst (pa_cons pe_int pa_nil)) (pv 3)))
      (pss_cons (ps_for PassesOwn.never rfl (pi_range1 rfl T.range (pa_cons (pv 3) pa_nil)) (pg_name (i := 8) sc_law_graded.nd rfl (Or.inl rfl))
        (pss_one (ps_asg (pe_ix ix_list (pv 5) (pe_ix ix_list (pv 6) (pv 8) (fun _ _ => rfl)) (fun _ _ => rfl)) (pg_sub (pv 7) (pe_ix ix_list (pv 5) (pv 8) (fun _ _ => rfl)) set_list))))
      (pss_one (ps_expr (pe_bm PySem.F.plainAttrs_list PySem.F.slot_list_append PySem.F.type_list_append mt_append (pv 4) (pa_cons (pv 7) pa_nil)))))))
    (pss_one (ps_ret (pe_tup (pa_cons (pe_callB call_len_seq (by rfl) T.len PySem.boot_len (pa_cons (pv 2) pa_nil)) (pa_cons (pe_call G_law_columns (hr.mono (by decide)) rfl d_law_columns.g d_law_columns.F.kp d_law_columns.b .nil pass0 (pa_cons (pv 4) pa_nil)) pa_nil))))))))))), ?_⟩
    refine ⟨_, rfl, d, l, 9, rfl, by decide, by decide, D, fun H1 wh D1 S1 w0 w1 => ⟨_, rfl, _, _, rfl, rfl, _, rfl, ite2 (fun _ => ?_) (fun _ => ?_)⟩⟩
    · exact ⟨_, rfl, d, l, 4, rfl, by decide, by decide, D1, fun H' t p A ts D' S' ht0 ht hN hG A0 A3 hl R => k H' t p A ts D' (S1.trans S') (S1.kp.free (D1.free ht0) ht0) ht (hN.back S1.kp (D1.free hN.top) fun u hu => D1.free (hN.row u hu)) hG A0 A3 hl R⟩
    refine ⟨_, rfl, _, rfl, _, rfl, _, rfl, d, l, 4, rfl, by decide, by decide, D1, fun H2 r D2 S2 r0 r1 => ⟨_, _, rfl, rfl, ?_⟩⟩
    obtain ⟨rn, rfl⟩ : ∃ n : Nat, r = (n : Int) := ⟨r.toNat, by omega⟩
    refine ⟨d, l, wh, 1 + rn, by show [V.ref d, V.int wh, V.int (1 + (rn : Int))] = [V.ref d, V.int wh, V.int ((1 + rn : Nat) : Int)]; rw [show ((1 + rn : Nat) : Int) = 1 + (rn : Int) by omega], by omega, by omega, D2, fun H3 v D3 S3 hC => ?_⟩
    obtain ⟨p, cs, m, rfl, hN, hG, hc⟩ := hC
    have np := D2.free hN.top
    have nrow : ∀ t ∈ cs, ¬ dl d l t.1 := fun t ht => D2.free (hN.row t ht)
    refine ⟨d, l, p, cs, rfl, .inl (SqL.of hG.top), by have := hc.le; omega, D3, fun t ht => ⟨nrow t ht, hG.row t ht⟩, fun H4 q ms D4 S4 hq0 hq hp4 => ?_⟩
    have ml : ms.length = cs.length := hp4.length_eq
    have mrow : ∀ t ∈ ms, ¬ dl d l t.1 ∧ H4 t.1 = some (.lst (t.2.map V.int)) ∧ t.2.length = m ∧ ∀ z ∈ t.2, 0 ≤ z ∧ z < (m : Int) := fun t ht => by
      have hm := hp4.mem_iff.mp ht
      exact ⟨nrow t hm, S4.kp.get (nrow t hm) (hG.row t hm), hc.row t hm⟩
    have nq := D3.free hq0
    obtain ⟨c0, cr, ec⟩ : ∃ c0 cr, ms = c0 :: cr := List.exists_cons_of_ne_nil (fun e => by
      have := hc.ne
      rw [e] at ml
      simp at ml
      omega)
    have hc0 : c0 ∈ ms := by
      rw [ec]
      exact List.mem_cons_self
    obtain ⟨n0r, r0c, l0c, b0c⟩ := mrow c0 hc0
    refine ⟨_, rfl, q, _, 0, V.ref c0.1, rfl, rfl, SqL.of hq, atI_int (by decide) (by rw [ec] <;> rfl), c0.1, _, rfl, .inl (SqL.of r0c), Nat.zero_le _, fun fq hfq => ⟨_, _, rfl, ?_⟩⟩
    rw [List.length_map, l0c]
    have D5 := D4.new (o := HO.lst []) hfq
    have nfq := D4.free hfq
    have m0 := hc.n0
    have m4 := hc.n4
    refine ⟨_, rfl, _, rfl, (m : Int), rfl, RgOk.of_le (by decide) (by omega) (by decide) (by omega), fun z hz => ?_⟩
    refine ⟨d, l, z, (List.range m).map fun i => ((i : Nat) : Int), rfl, SqL.of ?_, by simp; omega, D5.new hz, fun H6 nm ns D6 S6 hnm0 hnm hpn => ?_⟩
    · rw [upd_same]
      unfold rgV
      rw [List.map_map]
      simp
    have nl : ns.length = m := by rw [hpn.length_eq]; simp
    have nb : ∀ y ∈ ns, 0 ≤ y ∧ y < (m : Int) := fun y hy => by
      obtain ⟨i, hi, rfl⟩ := List.mem_map.mp (hpn.mem_iff.mp hy)
      have := List.mem_range.mp hi
      omega
    have S46 : SB d l H4 H6 := ((SB.new (o := HO.lst []) hfq).trans (SB.new (o := HO.lst (rgV 0 (m : Int))) hz)).trans S6
    have hf6 : H6 fq = some (.lst []) := S6.kp.get nfq (nk upd_same hz)
    have hq6 : H6 q = some (.lst (ms.map fCol)) := S46.kp.get nq hq
    have row6 : ∀ t ∈ ms, H6 t.1 = some (.lst (t.2.map V.int)) := fun t ht => S46.kp.get (mrow t ht).1 (mrow t ht).2.1
    have rne : ∀ t ∈ ms, t.1 ≠ fq := fun t ht e => by
      have := (mrow t ht).2.1
      rw [e, hfq] at this
      cases this
    have qne : q ≠ fq := fun e => by
      rw [e, hfq] at hq
      cases hq
    have nmne : nm ≠ fq := fun e => by
      rw [e, nk upd_same hz] at hnm0
      cases hnm0
    have S06 : SB d l H H6 := ((((S1.trans S2).trans S3).trans S4).trans S46)
    refine ⟨_, rfl, q, rfl, ⟨_, SqL.of hq6⟩, for_list (K := K) (a := q) (xs := ms.map fCol) (fun i σ U => ∃ (fs : List (Addr × List Int)) (v6 v7 v8 : Option V), σ = [some (.ref d), some (.int wh), some (.ref q), some (.int (m : Int)), some (.ref fq), some (.ref nm), v6, v7, v8] ∧ KP (fun a => a = fq) H6 U ∧ U fq = some (.lst (fs.map fCol)) ∧ fs.length = i ∧
      ∀ t ∈ fs, H6 t.1 = none ∧ U t.1 = some (.lst (t.2.map V.int)) ∧ t.2.length = m ∧ ∀ y ∈ t.2, 0 ≤ y ∧ y < (m : Int)) ⟨[], none, none, none, rfl, KP.refl _ _, hf6, rfl, fun t ht => by cases ht⟩ (fun i σ U _ ⟨_, _, _, _, _, kU, _⟩ => SqL.of (kU.get qne hq6)) ?_ ?_⟩
    · rintro i x σ U hi ⟨fs, v6, v7, v8, rfl, kU, hfU, hfl, hfr⟩
      rw [List.getElem?_map] at hi
      obtain ⟨c, hci, rfl⟩ : ∃ c, ms[i]? = some c ∧ V.ref c.1 = x := by
        cases e : ms[i]? with
        | none => rw [e] at hi; cases hi
        | some c => rw [e] at hi; exact ⟨c, rfl, Option.some.inj hi⟩
      have hcm := mem_of_get hci
      have hil : i < ms.length := (List.getElem?_eq_some_iff.mp hci).1
      obtain ⟨nc, _, lc, bc⟩ := mrow c hcm
      have rc := kU.get (rne c hcm) (row6 c hcm)
      have rn6 := kU.get nmne hnm
      refine ⟨by show 1 ≤ sizeLine; decide, fun p1 hp1 => ⟨_, rfl, p1, (m : Int), _, rfl, rfl, upd_same, by omega, by omega, Nat.le_trans (show 1 * ((m : Int)).toNat ≤ 1000 by omega) (by decide), fun p2 hp2 => ?_⟩⟩
      rw [flat_rep, Int.toNat_natCast]
      obtain ⟨U1, eU1⟩ : ∃ W, W = upd (upd U p1 (HO.lst [V.int 0])) p2 (HO.lst (List.replicate m (V.int 0))) := ⟨_, rfl⟩
      have S1' : Same U U1 := by
        rw [eU1]
        exact (Same.new hp1).trans (Same.new hp2)
      have g2 : U1 p2 = some (.lst ((List.replicate m (0 : Int)).map V.int)) := by
        rw [eU1, upd_same, List.map_replicate]
      have p2U : U p2 = none := ff hp1 hp2
      rw [← eU1]
      have ne2 : ∀ {a : Addr} {o : HO}, U a = some o → a ≠ p2 := fun h e => by
        rw [e, p2U] at h
        cases h
      refine ⟨_, rfl, (m : Int), rfl, by omega, by omega, ?_⟩
      refine for_range (lo := 0) (n := ((m : Int)).toNat) (fun j σ W => ∃ (zs : List Int) (v8 : Option V), σ = [some (.ref d), some (.int wh), some (.ref q), some (.int (m : Int)), some (.ref fq), some (.ref nm), some (.ref c.1), some (.ref p2), v8] ∧ KP (fun a => a = p2) U1 W ∧ W p2 = some (.lst (zs.map V.int)) ∧ zs.length = m ∧ ∀ y ∈ zs, 0 ≤ y ∧ y < (m : Int)) ⟨List.replicate m 0, v8, rfl, KP.refl _ _, g2, by simp, fun y hy => by rw [List.eq_of_mem_replicate hy]; omega⟩ ?_ ?_
      · rintro j σ W hj ⟨zs, v8, rfl, kW, gW, zl, zb⟩
        rw [Int.toNat_natCast] at hj
        have rcW := kW.get (ne2 rc) (S1' _ _ rc)
        have rnW := kW.get (ne2 rn6) (S1' _ _ rn6)
        obtain ⟨cj, hcj⟩ : ∃ z, c.2[j]? = some z := ⟨_, List.getElem?_eq_getElem (by omega)⟩
        have bcj := bc cj (mem_of_get hcj)
        obtain ⟨nj, hnj⟩ : ∃ z, ns[j]? = some z := ⟨_, List.getElem?_eq_getElem (by omega)⟩
        have bnj := nb nj (mem_of_get hnj)
        obtain ⟨nk2, hnk⟩ : ∃ z, ns[cj.toNat]? = some z := ⟨_, List.getElem?_eq_getElem (by omega)⟩
        have bnk := nb nk2 (mem_of_get hnk)
        have ej : (0 + (j : Int)).toNat = j := by omega
        refine ⟨_, rfl, _, rfl, _, rfl, c.1, _, _, V.int cj, rfl, rfl, SqL.of rcW, atI_int (by omega) (by rw [ej, List.getElem?_map, hcj] <;> rfl), nm, _, cj, V.int nk2, rfl, rfl, SqL.of rnW, atI_int bcj.1 (by rw [List.getElem?_map, hnk] <;> rfl), ?_⟩
        refine ⟨_, rfl, _, rfl, _, rfl, nm, _, _, V.int nj, rfl, rfl, SqL.of rnW, atI_int (by omega) (by rw [ej, List.getElem?_map, hnj] <;> rfl), p2, _, nj, nj.toNat, rfl, rfl, gW, ?_, ?_⟩
        · unfold ixN
          rw [if_pos bnj.1, if_pos (by rw [List.length_map]; omega)]
        · refine ⟨zs.set nj.toNat nk2, _, rfl, fun a o h n => by rw [upd_ne n]; exact kW a o h n, by rw [upd_same, List.map_set], by rw [List.length_set]; exact zl, fun y hy => ?_⟩
          rcases List.mem_or_eq_of_mem_set hy with h | h
          · exact zb y h
          · rw [h]
            exact bnk
      · rintro σ W ⟨zs, v8, rfl, kW, gW, zl, zb⟩
        have fne2 : fq ≠ p2 := ne2 hfU
        have fW := kW.get fne2 (S1' _ _ hfU)
        have p26 : H6 p2 = none := kU.free fne2.symm p2U
        refine ⟨_, rfl, .inl ⟨rfl, _, SqL.of fW⟩, _, rfl, fq, _, _, rfl, rfl, fW, ?_, ?_⟩
        · rw [List.length_map, hfl]
          have := hc.le
          exact Nat.lt_of_lt_of_le (show i < 1000 by omega) (by decide)
        · refine ⟨fs ++ [(p2, zs)], _, _, _, rfl, fun a o h n => ?_, by rw [upd_same, List.map_append] <;> rfl, by rw [List.length_append, hfl] <;> rfl, fun t ht => ?_⟩
          · rw [upd_ne n]
            have n2 : a ≠ p2 := fun e => by
              rw [e, p26] at h
              cases h
            exact kW a o (S1' _ _ (kU a o h n)) n2
          · rcases List.mem_append.mp ht with h | h
            · obtain ⟨h1, h2, h3⟩ := hfr t h
              have n1 : t.1 ≠ fq := fun e => by
                rw [e, hf6] at h1
                cases h1
              exact ⟨h1, by rw [upd_ne n1]; exact kW.get (ne2 h2) (S1' _ _ h2), h3⟩
            · rw [List.mem_singleton.mp h]
              exact ⟨p26, by rw [upd_ne fne2.symm]; exact gW, zl, zb⟩
    · rintro σ U ⟨fs, v6, v7, v8, rfl, kU, hfU, hfl, hfr⟩
      rw [List.length_map] at hfl
      have D7 : DealAt U d l := D6.kp kU (fun a ha e => nfq (by rw [← e]; exact ha))
      have hqU := kU.get qne hq6
      have cle := hc.le
      have cne := hc.ne
      refine ⟨_, rfl, q, _, rfl, .inl (SqL.of hqU), _, rfl, fq, fs, m, rfl, ⟨hfU, fun t ht => (hfr t ht).2.1⟩, by omega, by omega, by omega, fun t ht => (hfr t ht).2.2.1, fun U' pu us SU hNu hGu hul hur => ⟨by show 2 ≤ sizeLine; decide, fun t ht => ?_⟩⟩
      have fq0 : H fq = none := (((S1.trans S2).trans S3).trans S4).kp.free nfq hfq
      have SU6 : SB d l H U := fun a o h n1 n2 => kU a o (S06 a o h n1 n2) (fun e => by rw [e, fq0] at h; cases h)
      have SUe : SB d l H (upd U' t (HO.tup [V.int ((ms.map fCol).length : Int), V.ref pu])) := (SU6.trans (KP.same SU).sb).trans (SB.new ht)
      have D8 : DealAt U' d l := D7.same SU
      have hA : (ms.map fCol).length = ms.length := List.length_map ..
      have new : ∀ a, U a = none → H a = none := fun a ha => SU6.kp.free (D7.free ha) ha
      refine k _ t pu (ms.map fCol).length us (D8.new ht) SUe (new t ?_) upd_same ⟨new _ hNu.top, fun u hu => new _ (hNu.row u hu)⟩ (hGu.new ht) (by omega) (by omega) (by omega) ⟨by omega, fun u hu => ?_⟩
      · cases e : U t with
        | none => rfl
        | some o =>
          rw [SU _ _ e] at ht
          cases ht
      · obtain ⟨h1, h2⟩ := hur u hu
        refine ⟨by omega, fun z hz => ?_⟩
        obtain ⟨t2, ht2, hz2⟩ := h2 z hz
        have := (hfr t2 ht2).2.2.2 z hz2
        omega
end
end Lk

set_option Elab.async false
set_option linter.all false
set_option maxRecDepth 100000
set_option maxHeartbeats 4000000
/-! tuples made while running of which more is known: that they have no dict (so their methods may be called) -/
namespace Lk
open PySem PySem.Spec PyProof.Rows L2
/-- a tuple at p, the object known to have no dict -/
def TupZ (H : Hp) (p : Addr) (ys : List V) : Prop := ∃ ob : Obj, H p = some (.frz ob (.tup ys)) ∧ ob.cls = .type "tuple" ∧ ob.dict = none
theorem TupZ.sq {K : PySem.W.Frag} {H : Hp} {p : Addr} {ys : List V} (x : TupZ H p ys) : SqT K H p ys := by
  obtain ⟨ob, h, _⟩ := x
  exact .inl (.inr ⟨ob, h⟩)
theorem TupZ.same {H H' : Hp} {p : Addr} {ys : List V} (x : TupZ H p ys) (S : Same H H') : TupZ H' p ys := by
  obtain ⟨ob, h, k⟩ := x
  exact ⟨ob, S _ _ h, k⟩
/-- tuple(xs) of a list -/
def rTupZ (K : PySem.W.Frag) : List V → Hp → VK → Prop := fun xs H Q => ∃ p ys, xs = [.ref p] ∧ SqL K H p ys ∧ ∀ (l : Addr) (ob : Obj), ob.cls = .type "tuple" → ob.dict = none → H l = none → Q (.ref l) (upd H l (.frz ob (.tup ys)))
theorem call_tupleZ {X : Cx} : CallR X (.type "tuple") (rTupZ X.K) := by
  rintro pins s σ H _ us Q I r ⟨p, ys, rfl, sq, go⟩
  obtain ⟨_, rfl, rx⟩ := Vals.one r
  cases rx
  obtain ⟨its, rv, pl, small⟩ := I.list sq
  have few := rv.length
  refine call_tuple_list pl.isList (fun h2 keep => ?_) (by rw [List.size_toArray]; omega)
  have I2 : L2.Inv X pins σ H ⟨h2, s.gens, s.drawn, s.toks, s.os⟩ := I.kept (t' := s.toks) keep
  have here : (h2.push { cls := .type "tuple", data := .seq its.toArray }).get? h2.objs.size = some { cls := .type "tuple", data := .seq its.toArray } := Heap.get?_push_size _ rfl
  have I3 := I2.laid (a := h2.objs.size) (o := .frz { cls := .type "tuple", data := .seq its.toArray } (.tup ys)) (t' := s.toks) (fun _ _ e => Heap.get?_push_of_some _ e) (Nat.le_refl _) ⟨here, small, its, rv, IsTup.new _ _⟩
  exact ⟨.ref h2.objs.size, _, I3, rfl, go _ _ rfl rfl (I2.hok.fresh (Nat.le_refl _))⟩
/-- t.index(i), the first place of an int -/
def rIdxZ (K : PySem.W.Frag) : V → List V → Hp → VK → Prop := fun x xs H Q => ∃ (p : Addr) (ys : List Int) (z : Int) (j : Nat), x = .ref p ∧ xs = [.int z] ∧ SqT K H p (ys.map V.int) ∧ ys[j]? = some z ∧ (∀ m, m < j → ys[m]? ≠ some z) ∧ Q (.int (j : Nat)) H
theorem flat_is : ∀ ys : List Int, (ys.map V.int).all flatV = true
  | [] => rfl
  | _ :: ys => flat_is ys
/-- the object of an int told -/
theorem ints_at {ys : List Int} {its : List Value} (r : Vals (ys.map V.int) its) {m : Nat} {y : Int} (h : ys[m]? = some y) : ∃ t, its[m]? = some (.int y t) := by
  obtain ⟨u, hu, t, rfl⟩ := r.get (i := m) (x := .int y) (by rw [List.getElem?_map, h] <;> rfl)
  exact ⟨t, hu⟩
theorem mt_idxZ {X : Cx} : MtR X "tuple.index" (rIdxZ X.K) := by
  rintro pins s σ H _ _ v us Q I rx rs ⟨p, ys, z, j, rfl, rfl, sq, found, first, go⟩
  obtain rfl : v = Value.ref p := rx
  obtain ⟨_, rfl, t, rfl⟩ := Vals.one rs
  obtain ⟨its, r, ⟨⟨c0, d0, x0, s0⟩, here, hc, n, hd⟩, _⟩ := I.tuple sq
  cases show c0 = .type "tuple" from hc
  cases show x0 = .seq its.toArray n from hd
  have few := r.length
  rw [List.length_map] at few
  have told : ∀ (m : Nat) (hm : m < its.toArray.size), ∃ y, ys[m]? = some y ∧ ∃ t, its.toArray[m] = .int y t := fun m hm => by
    have lm : m < ys.length := by rw [List.size_toArray] at hm; omega
    obtain ⟨t, e⟩ := ints_at r (List.getElem?_eq_getElem lm)
    exact ⟨_, List.getElem?_eq_getElem lm, t, by rw [List.getElem_toArray]; exact (List.getElem?_eq_some_iff.mp e).2⟩
  have room : j < its.toArray.size := by
    have := (List.getElem?_eq_some_iff.mp found).1
    rw [List.size_toArray]
    omega
  refine call_meets PySem.F.slot_tuple_index ⟨_, here, rfl⟩ PySem.F.entry_tuple_index (PySem.F.args_tuple_index_2 _ _)
    (TI.tuple_indexAt p its.toArray n d0 s0 (.int z t) (eqU (.int z)) j room ?_ fun m hm lt => ?_)
    ⟨here, fun u hu => mem_eqAt (x := .int z) ⟨t, rfl⟩ rfl r (flat_is ys) u (by simpa using hu), ⟨.int (j : Nat), H, I.tok _, ⟨_, rfl⟩, go⟩⟩
  · obtain ⟨y, e, t2, e2⟩ := told j room
    rw [e2, ← show z = y from Option.some.inj (found.symm.trans e)]
    exact beq_self_eq_true z
  · obtain ⟨y, e, t2, e2⟩ := told m hm
    rw [e2]
    exact beq_eq_false_iff_ne.mpr fun q => first m lt (q ▸ e)
/-! ### a method of such a tuple: t.m(e, ..) -/
def tZ (r : V → List V → Hp → VK → Prop) (to : TE) (t : TA) : TE := fun σ H Q => to σ H fun x H1 => (∃ p ys, x = .ref p ∧ TupZ H1 p ys) ∧ t σ H1 fun xs H2 => r x xs H2 Q
theorem pe_methodZ {X : Cx} {o e : Expr} {es : List Expr} {to : TE} {t : TA} {name : Str} {p1 p2 : Pos} {id : String} {r : V → List V → Hp → VK → Prop} (pa : PlainAttrs "tuple") (slot : Slot "tuple" name id) (ty : typeOf (.builtin id) = pure (.type "method_descriptor")) (hm : MtR X id r) (ho : PE X o to) (ha : PA X (e :: es) t)
    (h1 : attributeBase o name X.env (eval o X.env) = eval o X.env := by rfl)
    (h2 : ((backTo p2 (starEach (e :: es) X.env)).all (fun x => !x.1) && (backToKw p2 (keywordEach [] X.env)).all (fun x => x.1.isSome) && decide ((e :: es).length + ([] : List Keyword).length + (if ([] : List Keyword).isEmpty then 0 else 1) < 30)) = true := by rfl)
    (h3 : (p1.endLine == p2.line) = true := by rfl) (h4 : starEach (e :: es) X.env = (false, eval e X.env) :: starEach es X.env := by rfl) (h5 : (backTo p2 (starEach es X.env)).any (·.1) = false := by rfl) :
    PE X (.Call (.Attribute o name p1) (e :: es) [] p2) (tZ r to t) := by
  refine ⟨fun pins s σ H Q I h => wpAny_Call_method_late h1 h2 h3 rfl (thn (ho.run pins s σ H _ I h) ?_)⟩
  rintro v s1 ⟨x, H1, I1, rx, ⟨p, ys, rfl, z⟩, q⟩
  cases rx
  obtain ⟨ob, hp, hc, hd⟩ := z
  have at1 : s1.heap.get? p = some ob := (I1.hok p _ hp).1
  refine ⟨"tuple", id, pa, slot, ty, ⟨ob, at1, hc⟩, fun a ea => by
    cases ea
    exact ⟨ob, at1, hd⟩, ?_⟩
  have args := ha.run p2 pins s1 σ H1 _ I1 q
  rw [h4] at args ⊢
  refine Calls.callWith_builtin (by show (false || (backTo p2 (starEach es X.env)).any (·.1)) = false; rw [h5] <;> rfl) (Calls.evalArgs_plain (thn args ?_))
  rintro us s2 ⟨vs, H2, I2, rv, q2⟩
  exact hm pins s2 σ H2 (.ref p) vs (.ref p) us Q I2 rfl rv q2
end Lk

set_option Elab.async false
set_option linter.all false
set_option maxRecDepth 100000
set_option maxHeartbeats 4000000
namespace Lk
open PySem L2
abbrev s_law_is_face : Stmt := top 46
abbrev N_law_is_face : List Str := ["steps", "part", "state", "command"]
abbrev P_law_is_face : List Str := ["steps", "part"]
theorem sc_law_is_face : FnScope N_law_is_face P_law_is_face (defScope s_law_is_face) := ⟨rfl, rfl, rfl, by decide +kernel, rfl, by decide +kernel, by decide +kernel⟩
theorem gridAt_step {A : Nat} {ts : List (Addr × List Int)} (O : RowsOk A ts) {s x : Int} (s0 : 0 ≤ s) (s1 : s < ts.length) (x0 : 0 ≤ x) (x1 : x < (A : Int)) : ∃ u, ts[s.toNat]? = some u ∧ u ∈ ts ∧ (u.2.map V.int)[x.toNat]? = some (V.int (stp (rsOf ts) s x)) ∧ 0 ≤ stp (rsOf ts) s x ∧ stp (rsOf ts) s x < ts.length := by
  have hlt : s.toNat < ts.length := by omega
  have hu := List.getElem?_eq_getElem hlt
  have hm := List.getElem_mem hlt
  obtain ⟨ru, rz⟩ := O.rs.row _ (mem_of_get (rsOf_get hu))
  have e : stp (rsOf ts) s x = (ts[s.toNat]).2.getD x.toNat 0 := by
    unfold stp
    rw [getD_of (rsOf_get hu)]
  have hx : x.toNat < (ts[s.toNat]).2.length := by rw [ru]; omega
  have e2 := item_of x0 (show x < ((ts[s.toNat]).2.length : Int) by omega) (0 : Int)
  have hz := rz _ (List.getElem_mem hx)
  rw [List.length_map] at hz
  have e3 : (ts[s.toNat]).2.getD x.toNat 0 = (ts[s.toNat]).2[x.toNat] := by
    rw [List.getD_eq_getElem?_getD, List.getElem?_eq_getElem hx] <;> rfl
  refine ⟨ts[s.toNat], hu, hm, ?_, by rw [e, e3]; exact hz.1, by rw [e, e3]; exact hz.2⟩
  rw [List.getElem?_map, e2, e]
  rfl
/-- together with the least one, behind each command -/
def faceAt (rs : List (List Int)) (xs : List Int) (s x : Nat) : Prop := xs.getD (stp rs (s : Int) (x : Int)).toNat 0 = xs.getD (stp rs (xs.getD s 0) (x : Int)).toNat 0
def FaceL (rs : List (List Int)) (A : Nat) (xs : List Int) : Prop := ∀ s x, s < rs.length → x < A → faceAt rs xs s x
/-- is it a face -/
def spLFace (K : PySem.W.Frag) : Sp := fun vs H Q _ => ∃ (g p : Addr) (A : Nat) (ts : List (Addr × List Int)) (xs : List Int), vs = [.ref g, .ref p] ∧ GridAt H g ts ∧ RowsOk A ts ∧ ts.length ≤ 1000 ∧ A ≤ 1000 ∧ SqT K H p (xs.map V.int) ∧ xs.length = ts.length ∧ (∀ z ∈ xs, 0 ≤ z ∧ z < (ts.length : Int)) ∧
  (FaceL (rsOf ts) A xs → Q (.bl true) H) ∧ (¬ FaceL (rsOf ts) A xs → Q (.bl false) H)
section
variable {P : Program} {w : World} {K : PySem.W.Frag} {mg : Str → Option Value} {base : Heap}
theorem ok_lface {f : Addr} {fd : FuncData} (A0 : Df K mg "_law_is_face" s_law_is_face f fd P_law_is_face) (T : Txt mg) : FnOk P w K mg base CX0 1 f fd P_law_is_face (spLFace K) := by
  refine A0.F.ok sc_law_is_face (fun vs H Q E h => ?_) (fun cdv Ar outer s H vs Q E hr h => ?_)
  · obtain ⟨g, p, A, ts, xs, rfl, _⟩ := h
    rfl
  · obtain ⟨g, p, A, ts, xs, rfl, G, R, hz, hA, hp, hl, hx, kT, kF⟩ := h
    refine ⟨_, (pss_cons (ps_for PassesOwn.never rfl (pi_range1 rfl T.range (pa_cons (pe_callB call_len_seq (by rfl) T.len PySem.boot_len (pa_cons (pv 1) pa_nil)) pa_nil)) (pg_name (i := 2) sc_law_is_face.nd rfl (Or.inl rfl))
      (pss_one (ps_for PassesOwn.never rfl (pi_range1 rfl T.range (pa_cons (pe_callB call_len_seq (by rfl) T.len PySem.boot_len (pa_cons (pe_ix ix_list (pv 0) pe_int (fun _ _ => rfl)) pa_nil)) pa_nil)) (pg_name (i := 3) sc_law_is_face.nd rfl (Or.inl rfl))
        (pss_one (ps_if (pt_cmpR op_ne (pe_ix ix_tup (pv 1) (pe_ix ix_list (pe_ix ix_list (pv 0) (pv 2) (fun _ _ => rfl)) (pv 3) (fun _ _ => rfl)) (fun _ _ => rfl)) (pe_ix ix_tup (pv 1) (pe_ix ix_list (pe_ix ix_list (pv 0) (pe_ix ix_tup (pv 1) (pv 2) (fun _ _ => rfl)) (fun _ _ => rfl)) (pv 3) (fun _ _ => rfl)) (fun _ _ => rfl)) (nomark _)) (pss_one (ps_ret pe_bl)) pss_nil)))))
    (pss_one (ps_ret pe_bl))), ?_⟩
    have hpos := R.pos
    have lr : (rsOf ts).length = ts.length := List.length_map ..
    obtain ⟨u0, ur, e0⟩ : ∃ u0 ur, ts = u0 :: ur := List.exists_cons_of_ne_nil (by intro e; rw [e] at hpos; simp at hpos)
    have hu0 : u0 ∈ ts := by
      rw [e0]
      exact List.mem_cons_self
    have hul0 : u0.2.length = A := (R.rs.row _ (List.mem_map.mpr ⟨u0, hu0, rfl⟩)).1
    have ci : ∀ z : Int, 0 ≤ z → z < ts.length → (xs.map V.int)[z.toNat]? = some (V.int (xs.getD z.toNat 0)) := fun z z0 z1 => by
      rw [List.getElem?_map, item_of z0 (by omega) (0 : Int)]
      rfl
    have ce : ∀ s : Nat, s < ts.length → 0 ≤ xs.getD s 0 ∧ xs.getD s 0 < (ts.length : Int) := fun s hs => by
      have e : xs.getD s 0 = xs[s]'(by omega) := by
        rw [List.getD_eq_getElem?_getD, List.getElem?_eq_getElem (by omega)] <;> rfl
      rw [e]
      exact hx _ (List.getElem_mem _)
    have si : ∀ {z : Int} {v : Addr × List Int}, ts[z.toNat]? = some v → (ts.map fun u => V.ref u.1)[z.toNat]? = some (V.ref v.1) := fun h => by
      rw [List.getElem?_map, h]
      rfl
    refine ⟨_, rfl, p, _, rfl, .inr hp, ts.length, by rw [List.length_map, hl], by omega, by omega, ?_⟩
    refine for_range (lo := 0) (n := ts.length) (fun i σ H' => ∃ v2 v3 : Option V, σ = [some (.ref g), some (.ref p), v2, v3] ∧ H' = H ∧ ∀ s, s < i → ∀ x, x < A → faceAt (rsOf ts) xs s x) ⟨none, none, rfl, rfl, fun s hs => absurd hs (Nat.not_lt_zero s)⟩ ?_ ?_
    · rintro i σ H1 hi ⟨v2, v3, rfl, rfl, hp1⟩
      have z0 : (0 : Int) + (i : Int) = (i : Int) := by omega
      rw [z0]
      refine ⟨_, rfl, g, _, 0, V.ref u0.1, rfl, rfl, SqL.of G.top, atI_int (by decide) (by rw [e0] <;> rfl), u0.1, _, rfl, .inl (SqL.of (G.row u0 hu0)), A, by rw [List.length_map, hul0], by omega, by omega, ?_⟩
      refine for_range (lo := 0) (n := A) (fun j σ H' => ∃ v3 : Option V, σ = [some (.ref g), some (.ref p), some (.int (i : Int)), v3] ∧ H' = H1 ∧ ∀ x, x < j → faceAt (rsOf ts) xs i x) ⟨v3, rfl, rfl, fun s hs => absurd hs (Nat.not_lt_zero s)⟩ ?_ ?_
      · rintro j σ H3 hj ⟨w3, rfl, rfl, hp2⟩
        have z1 : (0 : Int) + (j : Int) = (j : Int) := by omega
        rw [z1]
        obtain ⟨c0, c1⟩ := ce i hi
        obtain ⟨u1, hu1, hm1, k1, z10, z11⟩ := gridAt_step R (s := (i : Int)) (x := (j : Int)) (by omega) (by omega) (by omega) (by omega)
        obtain ⟨u2, hu2, hm2, k2, z20, z21⟩ := gridAt_step R (s := xs.getD i 0) (x := (j : Int)) c0 c1 (by omega) (by omega)
        refine ⟨_, rfl, _, rfl, _, rfl, g, _, _, _, rfl, rfl, SqL.of G.top, atI_int (by omega) (si hu1), _, rfl, u1.1, _, _, _, rfl, rfl, SqL.of (G.row u1 hm1), atI_int (by omega) k1, p, _, _, _, rfl, rfl, hp, atI_int z10 (ci _ z10 z11), ?_⟩
        have ei : (xs.map V.int)[((i : Nat) : Int).toNat]? = some (V.int (xs.getD i 0)) := by
          have := ci (i : Int) (by omega) (by omega)
          rw [Int.toNat_natCast] at this
          exact this
        refine ⟨_, rfl, _, rfl, _, rfl, _, rfl, p, _, _, _, rfl, rfl, hp, atI_int (by omega) ei, g, _, _, _, rfl, rfl, SqL.of G.top, atI_int c0 (si hu2), _, rfl, u2.1, _, _, _, rfl, rfl, SqL.of (G.row u2 hm2), atI_int (by omega) k2, p, _, _, _, rfl, rfl, hp, atI_int z20 (ci _ z20 z21), rfl, _, rfl, ?_⟩
        by_cases e : faceAt (rsOf ts) xs i j
        · rw [decide_eq_true (show V.int _ = V.int _ from congrArg V.int e)]
          refine iteF ⟨_, rfl, rfl, fun x hx2 => ?_⟩
          by_cases ex : x = j
          · rw [ex]
            exact e
          · exact hp2 x (by omega)
        · rw [decide_eq_false (fun q => e (by injection q))]
          exact iteT (kF fun F => e (F i j (by omega) hj))
      · rintro σ H3 ⟨w3, rfl, rfl, hp2⟩
        refine ⟨_, _, rfl, rfl, fun s hs x hx2 => ?_⟩
        by_cases e : s = i
        · rw [e]
          exact hp2 x hx2
        · exact hp1 s (by omega) x hx2
    · rintro σ H1 ⟨v2, v3, rfl, rfl, hp1⟩
      exact kT fun s x hs hx2 => hp1 s (by omega) x hx2
end
end Lk

set_option Elab.async false
set_option linter.all false
set_option maxRecDepth 100000
set_option maxHeartbeats 8000000
namespace Lk
open PySem L2
abbrev s_law_any_machine : Stmt := top 42
abbrev N_law_any_machine : List Str := ["deal", "many", "columns", "turn", "column"]
abbrev P_law_any_machine : List Str := ["deal"]
theorem sc_law_any_machine : FnScope N_law_any_machine P_law_any_machine (defScope s_law_any_machine) := ⟨rfl, rfl, rfl, by decide +kernel, rfl, by decide +kernel, by decide +kernel⟩
theorem norm {f : St → Hp → Prop} {σ σ' : St} {H : Hp} (e : σ = σ') (h : f σ' H) : f σ H := by
  rw [e]
  exact h
/-- an if statement whose two ways meet again -/
theorem joinNameS {t rest : TS} {D : Ends} {i : Nat} {v : V} {σ : St} {H : Hp} {f : St → Hp → Prop} (e : f = tSeq t rest D) (R : Hp → Prop) (h : ∀ N : St → Hp → Prop, (∀ H', R H' → N (σ.set i (some v)) H') → t { D with nx := N } (σ.set i (some v)) H)
    (k : ∀ H', R H' → rest D (σ.set i (some v)) H') : gName i v σ H f := by
  subst e
  exact h _ k
/-- any drawn machine: (commands, steps) -/
def spAnyM : Sp := fun vs H Q _ => ∃ (d l : Addr), vs = [.ref d] ∧ DealAt H d l ∧
  ∀ (H' : Hp) (t p : Addr) (A : Nat) (ts : List (Addr × List Int)), DealAt H' d l → SB d l H H' → H t = none → H' t = some (.tup [.int A, .ref p]) → NewG H p ts → GridAt H' p ts → 0 < A → A ≤ 3 → (ts.length : Int) ≤ 4 → RowsOk A ts → Q (.ref t) H'
section
variable {P : Program} {w : World} {K : PySem.W.Frag} {mg : Str → Option Value} {base : Heap}
theorem ok_anym {f fa fx fk : Addr} {fd fda fdx fdk : FuncData} (A0 : Df K mg "_law_any_machine" s_law_any_machine f fd P_law_any_machine) (d_law_any : Df K mg "_law_any" s_law_any fa fda P_law_any) (d_law_mixed : Df K mg "_law_mixed" s_law_mixed fx fdx P_law_mixed) (d_law_columns : Df K mg "_law_columns" s_law_columns fk fdk P_law_columns) (T : Txt mg) : FnOk P w K mg base CX0 3 f fd P_law_any_machine spAnyM := by
  have G_law_any : FnOk P w K mg base CX0 1 fa fda P_law_any spAny := ok_any d_law_any T
  have G_law_mixed : FnOk P w K mg base CX0 2 fx fdx P_law_mixed (spMixed K) := ok_mixed d_law_mixed d_law_any T
  have G_law_columns : FnOk P w K mg base CX0 1 fk fdk P_law_columns spColumns := ok_columns d_law_columns T
  refine A0.F.ok sc_law_any_machine (fun vs H Q E h => ?_) (fun cdv Ar outer s H vs Q E hr h => ?_)
  · obtain ⟨d, l, rfl, _⟩ := h
    rfl
  · obtain ⟨d, l, rfl, D, k⟩ := h
    refine ⟨_, (pss_cons (ps_par (i := 1) (j := 2) rfl sc_law_any_machine.nd rfl rfl (by decide) rfl rfl (pa_cons (pe_op op_add pe_int (pe_call G_law_any (hr.mono (by decide)) rfl d_law_any.g d_law_any.F.kp d_law_any.b .nil pass0 (pa_cons (pv 0) (pa_cons pe_int pa_nil)))) (pa_cons (pe_lst pa_nil) pa_nil)) rfl)
    (pss_cons (ps_for PassesOwn.never rfl (pi_range1 rfl T.range (pa_cons (pe_op op_add pe_int (pe_call G_law_any (hr.mono (by decide)) rfl d_law_any.g d_law_any.F.kp d_law_any.b .nil pass0 (pa_cons (pv 0) (pa_cons pe_int pa_nil)))) pa_nil)) (pg_name (i := 3) sc_law_any_machine.nd rfl (Or.inl rfl))
      (pss_cons (ps_set (i := 4) sc_law_any_machine.nd rfl (Or.inl rfl) (pe_call G_law_mixed (hr.mono (by decide)) rfl d_law_mixed.g d_law_mixed.F.kp d_law_mixed.b .nil pass0 (pa_cons (pv 0) (pa_cons (pe_listRg rfl (by rfl) T.list (prg_1 (by rfl) T.range (pv 1))) pa_nil))))
      (pss_cons (ps_if (pt_cmpR op_eq (pe_call G_law_any (hr.mono (by decide)) rfl d_law_any.g d_law_any.F.kp d_law_any.b .nil pass0 (pa_cons (pv 0) (pa_cons pe_int pa_nil))) pe_int (nomark _)) (pss_one (ps_asg (pe_ix ix_list (pv 4) (pe_call G_law_any (hr.mono (by decide)) rfl d_law_any.g d_law_any.F.kp d_law_any.b .nil pass0 (pa_cons (pv 0) (pa_cons (pv 1) pa_nil))) (fun _ _ => rfl)) (pg_sub (pv 4) (pe_call G_law_any (hr.mono (by decide)) rfl d_law_any.g d_law_any.F.kp d_law_any.b .nil pass0 (pa_cons (pv 0) (pa_cons (pv 1) pa_nil))) set_list))) pss_nil)
      (pss_one (ps_expr (pe_bm PySem.F.plainAttrs_list PySem.F.slot_list_append PySem.F.type_list_append mt_append (pv 2) (pa_cons (pv 4) pa_nil)))))))
    (pss_one (ps_ret (pe_tup (pa_cons (pe_callB call_len_seq (by rfl) T.len PySem.boot_len (pa_cons (pv 2) pa_nil)) (pa_cons (pe_call G_law_columns (hr.mono (by decide)) rfl d_law_columns.g d_law_columns.F.kp d_law_columns.b .nil pass0 (pa_cons (pv 2) pa_nil)) pa_nil))))))), ?_⟩
    refine ⟨_, rfl, d, l, 2, rfl, by decide, by decide, D, fun H1 r D1 S1 r0 r1 => ⟨_, _, rfl, rfl, by decide, fun fq hfq => ⟨_, _, rfl, ?_⟩⟩⟩
    obtain ⟨rn, rfl⟩ : ∃ n : Nat, r = (n : Int) := ⟨r.toNat, by omega⟩
    obtain ⟨m, em⟩ : ∃ m : Nat, (3 : Int) + (rn : Int) = (m : Int) := ⟨3 + rn, by omega⟩
    refine norm (σ' := [some (.ref d), some (.int (m : Int)), some (.ref fq), none, none]) (by rw [← em] <;> rfl) ?_
    have m3 : 3 ≤ m := by omega
    have m4 : m ≤ 4 := by omega
    have D2 := D1.new (o := HO.lst []) hfq
    have nfq : ¬ dl d l fq := D1.free hfq
    have S2 := S1.trans (SB.new (d := d) (l := l) (o := HO.lst []) hfq)
    have fq0 : H fq = none := S1.kp.free nfq hfq
    refine ⟨_, rfl, d, l, 2, rfl, by decide, by decide, D2, fun H3 q D3 S3 q0 q1 => ⟨_, _, rfl, rfl, _, rfl, by omega, by omega, ?_⟩⟩
    have S03 := S2.trans S3
    have hf3 := S3.kp.get nfq upd_same
    refine for_range (lo := 0) (n := ((2 + q : Int)).toNat) (fun i σ U => ∃ (fs : List (Addr × List Int)) (v3 v4 : Option V), σ = [some (.ref d), some (.int (m : Int)), some (.ref fq), v3, v4] ∧ DealAt U d l ∧ SB d l H U ∧ U fq = some (.lst (fs.map fCol)) ∧ fs.length = i ∧
      ∀ t ∈ fs, H t.1 = none ∧ ¬ dl d l t.1 ∧ t.1 ≠ fq ∧ U t.1 = some (.lst (t.2.map V.int)) ∧ t.2.length = m ∧ ∀ y ∈ t.2, 0 ≤ y ∧ y < (m : Int)) ⟨[], none, none, rfl, D3, S03, hf3, rfl, fun t ht => by cases ht⟩ ?_ ?_
    · rintro i σ U hi ⟨fs, v3, v4, rfl, DU, SU, hfU, hfl, hfr⟩
      refine ⟨_, rfl, _, rfl, (m : Int), rfl, RgOk.of_le (by decide) (by omega) (by decide) (by omega), fun z hz => ?_⟩
      refine ⟨d, l, z, (List.range m).map fun i => ((i : Nat) : Int), rfl, SqL.of ?_, by simp; omega, DU.new hz, fun H6 nm ns D6 S6 hnm0 hnm hpn => ?_⟩
      · rw [upd_same]
        unfold rgV
        rw [List.map_map]
        simp
      have nl : ns.length = m := by rw [hpn.length_eq]; simp
      have nb : ∀ y ∈ ns, 0 ≤ y ∧ y < (m : Int) := fun y hy => by
        obtain ⟨i, hi, rfl⟩ := List.mem_map.mp (hpn.mem_iff.mp hy)
        have := List.mem_range.mp hi
        omega
      have SU6 : SB d l U H6 := (SB.new (o := HO.lst (rgV 0 (m : Int))) hz).trans S6
      have nnm : ¬ dl d l nm := (DU.new (o := HO.lst (rgV 0 (m : Int))) hz).free hnm0
      have nmU : U nm = none := (SB.new (d := d) (l := l) (o := HO.lst (rgV 0 (m : Int))) hz).kp.free nnm hnm0
      have nmq : nm ≠ fq := fun e => by
        rw [e, hfU] at nmU
        cases nmU
      have nmH : H nm = none := SU.kp.free nnm nmU
      refine joinNameS (by with_reducible rfl) (fun W => ∃ zs : List Int, DealAt W d l ∧ (∀ a o, U a = some o → a ≠ d → a ≠ l → W a = some o) ∧ W nm = some (.lst (zs.map V.int)) ∧ zs.length = m ∧ ∀ y ∈ zs, 0 ≤ y ∧ y < (m : Int)) (fun Q' kQ => ?_) (fun W hR => ?_)
      · refine ⟨_, rfl, d, l, 2, rfl, by decide, by decide, D6, fun H7 x D7 S7 x0 x1 => ⟨rfl, _, rfl, ite2 (fun _ => ?_) (fun _ => ?_)⟩⟩
        · have h7 := S7.kp.get nnm hnm
          refine ⟨_, rfl, _, rfl, _, rfl, d, l, (m : Int), rfl, by omega, by omega, D7, fun H8 y D8 S8 y0 y1 => ?_⟩
          have h8 := S8.kp.get nnm h7
          obtain ⟨yv, hyv⟩ : ∃ z, ns[y.toNat]? = some z := ⟨_, List.getElem?_eq_getElem (by omega)⟩
          refine ⟨nm, _, y, V.int yv, rfl, rfl, SqL.of h8, atI_int y0 (by rw [List.getElem?_map, hyv] <;> rfl), ?_⟩
          refine ⟨_, rfl, _, rfl, _, rfl, d, l, (m : Int), rfl, by omega, by omega, D8, fun H9 x2 D9 S9 x20 x21 => ?_⟩
          have h9 := S9.kp.get nnm h8
          refine ⟨nm, _, x2, x2.toNat, rfl, rfl, h9, ?_, ?_⟩
          · unfold ixN
            rw [if_pos x20, if_pos (by rw [List.length_map]; omega)]
          · refine kQ _ ⟨ns.set x2.toNat yv, D9.kp (S := fun a => a = nm) (fun a o h n => (upd_ne n).trans h) (fun a ha e => nnm (e ▸ ha)), fun a o h n1 n2 => ?_, by rw [upd_same, List.map_set], by rw [List.length_set]; exact nl, fun w hw => ?_⟩
            · rw [upd_ne (fun e => by rw [e, nmU] at h; cases h)]
              exact ((SU6.trans S7).trans (S8.trans S9)) a o h n1 n2
            · rcases List.mem_or_eq_of_mem_set hw with h | h
              · exact nb w h
              · rw [h]
                exact nb yv (mem_of_get hyv)
        · exact kQ _ ⟨ns, D7, SU6.trans S7, S7.kp.get nnm hnm, nl, nb⟩
      · obtain ⟨zs, DW, SW, hW, zl, zb⟩ := hR
        have fqW := SW _ _ hfU (fun e => nfq (.inl e)) (fun e => nfq (.inr e))
        refine ⟨_, rfl, .inl ⟨rfl, _, SqL.of fqW⟩, _, rfl, fq, _, _, rfl, rfl, fqW, ?_, ?_⟩
        · rw [List.length_map, hfl]
          exact Nat.lt_of_lt_of_le (show i < 1000 by omega) (by decide)
        · refine ⟨fs ++ [(nm, zs)], _, _, rfl, DW.kp (S := fun a => a = fq) (fun a o h n => (upd_ne n).trans h) (fun a ha e => nfq (e ▸ ha)), fun a o h n1 n2 => ?_, by rw [upd_same, List.map_append] <;> rfl, by rw [List.length_append, hfl] <;> rfl, fun t ht => ?_⟩
          · rw [upd_ne (fun e => by rw [e, fq0] at h; cases h)]
            exact SW a o (SU a o h n1 n2) n1 n2
          · rcases List.mem_append.mp ht with h | h
            · obtain ⟨h1, h2, h3, h4, h5⟩ := hfr t h
              exact ⟨h1, h2, h3, by rw [upd_ne h3]; exact SW _ _ h4 (fun e => h2 (.inl e)) (fun e => h2 (.inr e)), h5⟩
            · rw [List.mem_singleton.mp h]
              exact ⟨nmH, nnm, nmq, by rw [upd_ne nmq]; exact hW, zl, zb⟩
    · rintro σ U ⟨fs, v3, v4, rfl, DU, SU, hfU, hfl, hfr⟩
      refine ⟨_, rfl, fq, _, rfl, .inl (SqL.of hfU), _, rfl, fq, fs, m, rfl, ⟨hfU, fun t ht => (hfr t ht).2.2.2.1⟩, by omega, by omega, by omega, fun t ht => (hfr t ht).2.2.2.2.1, fun U' pu us SU' hNu hGu hul hur => ⟨by show 2 ≤ sizeLine; decide, fun t ht => ?_⟩⟩
      have hA : (fs.map fCol).length = fs.length := List.length_map ..
      have new : ∀ a, U a = none → H a = none := fun a ha => SU.kp.free (DU.free ha) ha
      refine k _ t pu (fs.map fCol).length us ((DU.same SU').new ht) ((SU.trans (KP.same SU').sb).trans (SB.new ht)) (new t ?_) upd_same ⟨new _ hNu.top, fun u hu => new _ (hNu.row u hu)⟩ (hGu.new ht) (by omega) (by omega) (by omega) ⟨by omega, fun u hu => ?_⟩
      · cases e : U t with
        | none => rfl
        | some o =>
          rw [SU' _ _ e] at ht
          cases ht
      · obtain ⟨h1, h2⟩ := hur u hu
        refine ⟨by omega, fun z hz => ?_⟩
        obtain ⟨t2, ht2, hz2⟩ := h2 z hz
        have := (hfr t2 ht2).2.2.2.2.2 z hz2
        omega
end
end Lk

set_option Elab.async false
set_option linter.all false
set_option maxRecDepth 100000
set_option maxHeartbeats 8000000
namespace Lk
open PySem L2
abbrev s_law_layered : Stmt := top 43
abbrev N_law_layered : List Str := ["deal", "names", "columns", "turn", "to", "column", "kept", "state", "low"]
abbrev P_law_layered : List Str := ["deal"]
theorem sc_law_layered : FnScope N_law_layered P_law_layered (defScope s_law_layered) := ⟨rfl, rfl, rfl, by decide +kernel, rfl, by decide +kernel, by decide +kernel⟩
theorem pick4 {a b c d v : V} {i : Nat} {P : V → Prop} (h : [a, b, c, d][i]? = some v) (ha : P a) (hb : P b) (hc : P c) (hd : P d) : P v := by
  match i, h with
  | 0, h => exact (Option.some.inj h) ▸ ha
  | 1, h => exact (Option.some.inj h) ▸ hb
  | 2, h => exact (Option.some.inj h) ▸ hc
  | 3, h => exact (Option.some.inj h) ▸ hd
  | n + 4, h => simp at h
section
variable {P : Program} {w : World} {K : PySem.W.Frag} {mg : Str → Option Value} {base : Heap}
theorem ok_layered {f fa fo fx fk : Addr} {fd fda fdo fdx fdk : FuncData} (A0 : Df K mg "_law_layered" s_law_layered f fd P_law_layered) (d_law_any : Df K mg "_law_any" s_law_any fa fda P_law_any) (d_law_of : Df K mg "_law_of" s_law_of fo fdo P_law_of) (d_law_mixed : Df K mg "_law_mixed" s_law_mixed fx fdx P_law_mixed) (d_law_columns : Df K mg "_law_columns" s_law_columns fk fdk P_law_columns) (T : Txt mg) : FnOk P w K mg base CX0 3 f fd P_law_layered spAnyM := by
  have G_law_any : FnOk P w K mg base CX0 1 fa fda P_law_any spAny := ok_any d_law_any T
  have G_law_of : FnOk P w K mg base CX0 2 fo fdo P_law_of spOf := ok_of d_law_of d_law_any T
  have G_law_mixed : FnOk P w K mg base CX0 2 fx fdx P_law_mixed (spMixed K) := ok_mixed d_law_mixed d_law_any T
  have G_law_columns : FnOk P w K mg base CX0 1 fk fdk P_law_columns spColumns := ok_columns d_law_columns T
  refine A0.F.ok sc_law_layered (fun vs H Q E h => ?_) (fun cdv Ar outer s H vs Q E hr h => ?_)
  · obtain ⟨d, l, rfl, _⟩ := h
    rfl
  · obtain ⟨d, l, rfl, D, k⟩ := h
    refine ⟨_, (pss_cons (ps_par (i := 1) (j := 2) rfl sc_law_layered.nd rfl rfl (by decide) rfl rfl (pa_cons (pe_call G_law_mixed (hr.mono (by decide)) rfl d_law_mixed.g d_law_mixed.F.kp d_law_mixed.b .nil pass0 (pa_cons (pv 0) (pa_cons (pe_lst (pa_cons pe_int (pa_cons pe_int (pa_cons pe_int (pa_cons pe_int pa_nil))))) pa_nil))) (pa_cons (pe_lst pa_nil) pa_nil)) rfl)
    (pss_cons (ps_for PassesOwn.never rfl (pi_range1 rfl T.range (pa_cons (pe_call G_law_of (hr.mono (by decide)) rfl d_law_of.g d_law_of.F.kp d_law_of.b .nil pass0 (pa_cons (pv 0) (pa_cons (pe_lst (pa_cons pe_int (pa_cons pe_int (pa_cons pe_int (pa_cons pe_int pa_nil))))) pa_nil))) pa_nil)) (pg_name (i := 3) sc_law_layered.nd rfl (Or.inl rfl))
      (pss_cons (ps_par (i := 4) (j := 5) rfl sc_law_layered.nd rfl rfl (by decide) rfl rfl (pa_cons (pe_call G_law_of (hr.mono (by decide)) rfl d_law_of.g d_law_of.F.kp d_law_of.b .nil pass0 (pa_cons (pv 0) (pa_cons (pe_lst (pa_cons (pe_lst (pa_cons pe_int (pa_cons pe_int pa_nil))) (pa_cons (pe_lst (pa_cons pe_int (pa_cons pe_int pa_nil))) (pa_cons (pe_lst (pa_cons pe_int (pa_cons pe_int pa_nil))) (pa_cons (pe_lst (pa_cons pe_int (pa_cons pe_int pa_nil))) (pa_cons (pe_lst (pa_cons pe_int (pa_cons pe_int pa_nil))) pa_nil)))))) pa_nil))) (pa_cons (pe_op op_rep (pe_lst (pa_cons pe_int pa_nil)) pe_int) pa_nil)) rfl)
      (pss_cons (ps_set (i := 6) sc_law_layered.nd rfl (Or.inl rfl) (pe_call G_law_any (hr.mono (by decide)) rfl d_law_any.g d_law_any.F.kp d_law_any.b .nil pass0 (pa_cons (pv 0) (pa_cons pe_int pa_nil))))
      (pss_cons (ps_for PassesOwn.never rfl (pi_range1 rfl T.range (pa_cons pe_int pa_nil)) (pg_name (i := 7) sc_law_layered.nd rfl (Or.inl rfl))
        (pss_cons (ps_set (i := 8) sc_law_layered.nd rfl (Or.inl rfl) (pe_ifExp (pt_cmpR op_eq (pv 6) pe_int (nomark _)) (pe_op op_sub (pv 7) (pe_op op_mul pe_int (pe_op op_fdiv (pv 7) pe_int))) (pe_call G_law_any (hr.mono (by decide)) rfl d_law_any.g d_law_any.F.kp d_law_any.b .nil pass0 (pa_cons (pv 0) (pa_cons pe_int pa_nil)))))
        (pss_one (ps_asg (pe_ix ix_list (pv 1) (pe_op op_add (pe_op op_mul pe_int (pe_ix ix_list (pv 4) (pe_op op_fdiv (pv 7) pe_int) (fun _ _ => rfl))) (pv 8)) (fun _ _ => rfl)) (pg_sub (pv 5) (pe_ix ix_list (pv 1) (pv 7) (fun _ _ => rfl)) set_list)))))
      (pss_one (ps_expr (pe_bm PySem.F.plainAttrs_list PySem.F.slot_list_append PySem.F.type_list_append mt_append (pv 2) (pa_cons (pv 5) pa_nil))))))))
    (pss_one (ps_ret (pe_tup (pa_cons (pe_callB call_len_seq (by rfl) T.len PySem.boot_len (pa_cons (pv 2) pa_nil)) (pa_cons (pe_call G_law_columns (hr.mono (by decide)) rfl d_law_columns.g d_law_columns.F.kp d_law_columns.b .nil pass0 (pa_cons (pv 2) pa_nil)) pa_nil))))))), ?_⟩
    refine ⟨_, rfl, by show 4 ≤ sizeLine; decide, fun p0 hp0 => ?_⟩
    have D0 := D.new (o := HO.lst [V.int 0, V.int 1, V.int 2, V.int 3]) hp0
    refine ⟨d, l, p0, [0, 1, 2, 3], rfl, SqL.of upd_same, by decide, D0, fun H1 nm ns D1 S1 hnm0 hnm hpn => ⟨Nat.zero_le _, fun fq hfq => ⟨_, _, rfl, ?_⟩⟩⟩
    have nl : ns.length = 4 := hpn.length_eq
    have nb : ∀ y ∈ ns, 0 ≤ y ∧ y < (4 : Int) := fun y hy => by
      have := hpn.mem_iff.mp hy
      simp at this
      omega
    have nnm : ¬ dl d l nm := D0.free hnm0
    have nfq : ¬ dl d l fq := D1.free hfq
    have D2 := D1.new (o := HO.lst []) hfq
    have S2 : SB d l H _ := ((SB.new (d := d) (l := l) (o := HO.lst [V.int 0, V.int 1, V.int 2, V.int 3]) hp0).trans S1).trans (SB.new (d := d) (l := l) (o := HO.lst []) hfq)
    have fq0 : H fq = none := ((SB.new (d := d) (l := l) (o := HO.lst [V.int 0, V.int 1, V.int 2, V.int 3]) hp0).trans S1).kp.free nfq hfq
    have nmq : nm ≠ fq := fun e => by
      rw [e, hfq] at hnm
      cases hnm
    have hnm2 : (upd H1 fq (HO.lst [])) nm = some (.lst (ns.map V.int)) := nk hnm hfq
    refine norm (σ' := [some (.ref d), some (.ref nm), some (.ref fq), none, none, none, none, none, none]) rfl ?_
    refine ⟨_, rfl, by show 4 ≤ sizeLine; decide, fun p2 hp2 => ?_⟩
    have D3 := D2.new (o := HO.lst [V.int 1, V.int 2, V.int 2, V.int 3]) hp2
    refine ⟨d, l, p2, _, rfl, upd_same, D2.free hp2, by show 0 < 4; decide, by show 4 ≤ 1000; decide, D3, fun H3 i v D4 S4 hv => ?_⟩
    obtain ⟨q, rfl, q1, q3⟩ : ∃ q : Int, v = .int q ∧ 1 ≤ q ∧ q ≤ 3 := pick4 (P := fun v => ∃ q : Int, v = .int q ∧ 1 ≤ q ∧ q ≤ 3) hv ⟨1, rfl, by decide, by decide⟩ ⟨2, rfl, by decide, by decide⟩ ⟨2, rfl, by decide, by decide⟩ ⟨3, rfl, by decide, by decide⟩
    have S24 := (SB.new (d := d) (l := l) (o := HO.lst [V.int 1, V.int 2, V.int 2, V.int 3]) hp2).trans S4
    have hnm3 := S24.kp.get nnm hnm2
    have hf3 := S24.kp.get nfq upd_same
    refine ⟨q, rfl, by omega, by omega, ?_⟩
    refine for_range (lo := 0) (n := q.toNat) (fun i σ U => ∃ (fs : List (Addr × List Int)) (v3 v4 v5 v6 v7 v8 : Option V), σ = [some (.ref d), some (.ref nm), some (.ref fq), v3, v4, v5, v6, v7, v8] ∧ DealAt U d l ∧ SB d l H U ∧ U nm = some (.lst (ns.map V.int)) ∧ U fq = some (.lst (fs.map fCol)) ∧ fs.length = i ∧
      ∀ t ∈ fs, H t.1 = none ∧ ¬ dl d l t.1 ∧ t.1 ≠ fq ∧ U t.1 = some (.lst (t.2.map V.int)) ∧ t.2.length = 4 ∧ ∀ y ∈ t.2, 0 ≤ y ∧ y < (4 : Int)) ⟨[], none, none, none, none, none, none, rfl, D4, S2.trans S24, hnm3, hf3, rfl, fun t ht => by cases ht⟩ ?_ ?_
    · rintro i σ U hi ⟨fs, v3, v4, v5, v6, v7, v8, rfl, DU, SU, hnU, hfU, hfl, hfr⟩
      refine ⟨_, rfl, by show 2 ≤ sizeLine; decide, fun a1 h1 => ⟨by show 2 ≤ sizeLine; decide, fun a2 h2 => ⟨by show 2 ≤ sizeLine; decide, fun a3 h3 => ⟨by show 2 ≤ sizeLine; decide, fun a4 h4 => ⟨by show 2 ≤ sizeLine; decide, fun a5 h5 => ⟨by show 5 ≤ sizeLine; decide, fun p hp => ?_⟩⟩⟩⟩⟩⟩
      have E1 := DU.new (o := HO.lst [V.int 0, V.int 1]) h1
      have E2 := E1.new (o := HO.lst [V.int 1, V.int 0]) h2
      have E3 := E2.new (o := HO.lst [V.int 0, V.int 0]) h3
      have E4 := E3.new (o := HO.lst [V.int 1, V.int 1]) h4
      have E5 := E4.new (o := HO.lst [V.int 0, V.int 1]) h5
      have E6 := E5.new (o := HO.lst [V.ref a1, V.ref a2, V.ref a3, V.ref a4, V.ref a5]) hp
      have SE : SB d l U _ := ((((((SB.new (d := d) (l := l) (o := HO.lst [V.int 0, V.int 1]) h1).trans (SB.new (o := HO.lst [V.int 1, V.int 0]) h2)).trans (SB.new (o := HO.lst [V.int 0, V.int 0]) h3)).trans (SB.new (o := HO.lst [V.int 1, V.int 1]) h4)).trans (SB.new (o := HO.lst [V.int 0, V.int 1]) h5)).trans (SB.new (o := HO.lst [V.ref a1, V.ref a2, V.ref a3, V.ref a4, V.ref a5]) hp))
      refine ⟨d, l, p, _, rfl, upd_same, E5.free hp, by show 0 < 5; decide, by show 5 ≤ 1000; decide, E6, fun H5 j v D5 S5 hv => ?_⟩
      obtain ⟨ad, bx, by', rfl, nad, had, b0, b1, b2, b3⟩ : ∃ (ad : Addr) (bx by' : Int), v = .ref ad ∧ ¬ dl d l ad ∧ H5 ad = some (.lst ([bx, by'].map V.int)) ∧ 0 ≤ bx ∧ bx ≤ 1 ∧ 0 ≤ by' ∧ by' ≤ 1 := by
        have g1 := S5.kp.get (DU.free h1) (nk (nk (nk (nk (nk upd_same h2) h3) h4) h5) hp)
        have g2 := S5.kp.get (E1.free h2) (nk (nk (nk (nk upd_same h3) h4) h5) hp)
        have g3 := S5.kp.get (E2.free h3) (nk (nk (nk upd_same h4) h5) hp)
        have g4 := S5.kp.get (E3.free h4) (nk (nk upd_same h5) hp)
        have g5 := S5.kp.get (E4.free h5) (nk upd_same hp)
        exact pick5 (P := fun v => ∃ (ad : Addr) (bx by' : Int), v = .ref ad ∧ ¬ dl d l ad ∧ H5 ad = some (.lst ([bx, by'].map V.int)) ∧ 0 ≤ bx ∧ bx ≤ 1 ∧ 0 ≤ by' ∧ by' ≤ 1) hv ⟨a1, 0, 1, rfl, DU.free h1, g1, by decide, by decide, by decide, by decide⟩ ⟨a2, 1, 0, rfl, E1.free h2, g2, by decide, by decide, by decide, by decide⟩ ⟨a3, 0, 0, rfl, E2.free h3, g3, by decide, by decide, by decide, by decide⟩ ⟨a4, 1, 1, rfl, E3.free h4, g4, by decide, by decide, by decide, by decide⟩ ⟨a5, 0, 1, rfl, E4.free h5, g5, by decide, by decide, by decide, by decide⟩
      have SU5 := SE.trans S5
      refine ⟨by show 1 ≤ sizeLine; decide, fun q1' hq1 => ⟨q1', (4 : Int), _, rfl, rfl, upd_same, by decide, by decide, by decide, fun p6 h6 => ⟨_, _, rfl, ?_⟩⟩⟩
      have E8 := (D5.new (o := HO.lst [V.int 0]) hq1)
      have E9 := E8.new (o := HO.lst (List.replicate (4 : Int).toNat [V.int 0]).flatten) h6
      have S9 := (SB.new (d := d) (l := l) (o := HO.lst [V.int 0]) hq1).trans (SB.new (d := d) (l := l) (o := HO.lst (List.replicate (4 : Int).toNat [V.int 0]).flatten) h6)
      have SU9 := SU5.trans S9
      have n6 : ¬ dl d l p6 := E8.free h6
      have p6U : U p6 = none := (SU5.trans (SB.new (d := d) (l := l) (o := HO.lst [V.int 0]) hq1)).kp.free n6 h6
      have p6H : H p6 = none := SU.kp.free n6 p6U
      have p6q : p6 ≠ fq := fun e => by
        rw [e, hfU] at p6U
        cases p6U
      have p6n : p6 ≠ nm := fun e => by
        rw [e, hnU] at p6U
        cases p6U
      refine norm (σ' := [some (.ref d), some (.ref nm), some (.ref fq), some (.int (0 + (i : Int))), some (.ref ad), some (.ref p6), v6, v7, v8]) rfl ?_
      refine ⟨_, rfl, d, l, 3, rfl, by decide, by decide, E9, fun H7 kp D7 S7 kp0 kp1 => ?_⟩
      have hz7 : H7 p6 = some (.lst (([0, 0, 0, 0] : List Int).map V.int)) := S7.kp.get n6 upd_same
      have SU7 := SU9.trans S7
      have had7 := (S9.trans S7).kp.get nad had
      have p6ad : p6 ≠ ad := fun e => by
        have hh := (SB.new (d := d) (l := l) (o := HO.lst [V.int 0]) hq1).kp.get nad had
        rw [← e, h6] at hh
        cases hh
      refine ⟨4, rfl, by decide, by decide, ?_⟩
      refine for_range (lo := 0) (n := 4) (fun j σ W => ∃ (zs : List Int) (v7 v8 : Option V), σ = [some (.ref d), some (.ref nm), some (.ref fq), some (.int (0 + (i : Int))), some (.ref ad), some (.ref p6), some (.int kp), v7, v8] ∧ DealAt W d l ∧ (∀ a o, H7 a = some o → a ≠ d → a ≠ l → a ≠ p6 → W a = some o) ∧ W p6 = some (.lst (zs.map V.int)) ∧ zs.length = 4 ∧ ∀ y ∈ zs, 0 ≤ y ∧ y < (4 : Int)) ⟨[0, 0, 0, 0], v7, v8, rfl, D7, fun a o h _ _ _ => h, hz7, rfl, fun y hy => by simp at hy; omega⟩ ?_ ?_
      · rintro j σ W hj ⟨zs, v7, v8, rfl, DW, SW, hW, zl, zb⟩
        refine joinName (by with_reducible rfl) (fun v W' => ∃ low : Int, v = .int low ∧ 0 ≤ low ∧ low ≤ 1 ∧ SB d l W W' ∧ DealAt W' d l) (fun Q' kQ => ?_) (fun v W' hR => ?_)
        · refine ⟨_, rfl, rfl, _, rfl, ite2 (fun _ => ?_) (fun _ => ?_)⟩
          · exact ⟨_, rfl, _, rfl, _, _, rfl, rfl, ⟨by decide, by decide⟩, _, _, rfl, rfl, .inl ⟨by decide, by decide⟩, _, _, rfl, rfl, kQ _ _ ⟨_, rfl, by omega, by omega, SB.refl _ _ _, DW⟩⟩
          · exact ⟨_, rfl, d, l, 2, rfl, by decide, by decide, DW, fun H' r D' S' r0 r1 => kQ _ _ ⟨r, rfl, r0, by omega, S', D'⟩⟩
        · obtain ⟨low, rfl, l0, l1, SW', DW'⟩ := hR
          have adW := SW'.kp.get nad (SW _ _ had7 (fun e => nad (.inl e)) (fun e => nad (.inr e)) (Ne.symm p6ad))
          have nmW := SW'.kp.get nnm (SW _ _ (SU7.kp.get nnm hnU) (fun e => nnm (.inl e)) (fun e => nnm (.inr e)) (Ne.symm p6n))
          have p6W := SW'.kp.get n6 hW
          obtain ⟨bb, hbb, bb0, bb1⟩ : ∃ bb, [bx, by'][((0 + (j : Int)) / 2).toNat]? = some bb ∧ 0 ≤ bb ∧ bb ≤ 1 := by
            rcases (show (0 + (j : Int)) / 2 = 0 ∨ (0 + (j : Int)) / 2 = 1 by omega) with e | e
            · rw [e]
              exact ⟨bx, rfl, b0, b1⟩
            · rw [e]
              exact ⟨by', rfl, b2, b3⟩
          obtain ⟨nn, hnn⟩ : ∃ z, ns[(2 * bb + low).toNat]? = some z := ⟨_, List.getElem?_eq_getElem (by omega)⟩
          obtain ⟨nj, hnj⟩ : ∃ z, ns[(0 + (j : Int)).toNat]? = some z := ⟨_, List.getElem?_eq_getElem (by omega)⟩
          have bnn := nb nn (mem_of_get hnn)
          have bnj := nb nj (mem_of_get hnj)
          refine ⟨_, rfl, _, rfl, _, rfl, _, _, rfl, rfl, ⟨by decide, by decide⟩, ad, _, _, V.int bb, rfl, rfl, SqL.of adW, atI_int (by omega) (by rw [List.getElem?_map, hbb] <;> rfl), _, _, rfl, rfl, .inl ⟨by decide, by decide⟩, _, rfl, _, _, rfl, rfl, nm, _, _, V.int nn, rfl, rfl, SqL.of nmW, atI_int (by omega) (by rw [List.getElem?_map, hnn] <;> rfl), ?_⟩
          refine ⟨_, rfl, _, rfl, _, rfl, nm, _, _, V.int nj, rfl, rfl, SqL.of nmW, atI_int (by omega) (by rw [List.getElem?_map, hnj] <;> rfl), p6, _, nj, nj.toNat, rfl, rfl, p6W, ?_, ?_⟩
          · unfold ixN
            rw [if_pos bnj.1, if_pos (by rw [List.length_map]; omega)]
          · refine ⟨zs.set nj.toNat nn, _, _, rfl, DW'.kp (S := fun a => a = p6) (fun a o h n => (upd_ne n).trans h) (fun a ha e => n6 (e ▸ ha)), fun a o h n1 n2 n3 => ?_, by rw [upd_same, List.map_set], by rw [List.length_set]; exact zl, fun y hy => ?_⟩
            · rw [upd_ne n3]
              exact SW' a o (SW a o h n1 n2 n3) n1 n2
            · rcases List.mem_or_eq_of_mem_set hy with h | h
              · exact zb y h
              · rw [h]
                exact bnn
      · rintro σ W ⟨zs, v7, v8, rfl, DW, SW, hW, zl, zb⟩
        have fqW := SW _ _ (SU7.kp.get nfq hfU) (fun e => nfq (.inl e)) (fun e => nfq (.inr e)) (Ne.symm p6q)
        refine ⟨_, rfl, .inl ⟨rfl, _, SqL.of fqW⟩, _, rfl, fq, _, _, rfl, rfl, fqW, ?_, ?_⟩
        · rw [List.length_map, hfl]
          exact Nat.lt_of_lt_of_le (show i < 1000 by omega) (by decide)
        · refine ⟨fs ++ [(p6, zs)], _, _, _, _, _, _, rfl, DW.kp (S := fun a => a = fq) (fun a o h n => (upd_ne n).trans h) (fun a ha e => nfq (e ▸ ha)), fun a o h n1 n2 => ?_, ?_, by rw [upd_same, List.map_append] <;> rfl, by rw [List.length_append, hfl] <;> rfl, fun t ht => ?_⟩
          · rw [upd_ne (fun e => by rw [e, fq0] at h; cases h)]
            exact SW a o (SU7 a o (SU a o h n1 n2) n1 n2) n1 n2 (fun e => by rw [e, p6H] at h; cases h)
          · rw [upd_ne nmq]
            exact SW _ _ (SU7.kp.get nnm hnU) (fun e => nnm (.inl e)) (fun e => nnm (.inr e)) (Ne.symm p6n)
          · rcases List.mem_append.mp ht with h | h
            · obtain ⟨h1, h2, h3, h4, h5⟩ := hfr t h
              exact ⟨h1, h2, h3, by rw [upd_ne h3]; exact SW _ _ (SU7.kp.get h2 h4) (fun e => h2 (.inl e)) (fun e => h2 (.inr e)) (fun e => by rw [e, p6U] at h4; cases h4), h5⟩
            · rw [List.mem_singleton.mp h]
              exact ⟨p6H, n6, p6q, by rw [upd_ne p6q]; exact hW, zl, zb⟩
    · rintro σ U ⟨fs, v3, v4, v5, v6, v7, v8, rfl, DU, SU, hnU, hfU, hfl, hfr⟩
      refine ⟨_, rfl, fq, _, rfl, .inl (SqL.of hfU), _, rfl, fq, fs, 4, rfl, ⟨hfU, fun t ht => (hfr t ht).2.2.2.1⟩, by omega, by omega, by omega, fun t ht => (hfr t ht).2.2.2.2.1, fun U' pu us SU' hNu hGu hul hur => ⟨by show 2 ≤ sizeLine; decide, fun t ht => ?_⟩⟩
      have hA : (fs.map fCol).length = fs.length := List.length_map ..
      have new : ∀ a, U a = none → H a = none := fun a ha => SU.kp.free (DU.free ha) ha
      refine k _ t pu (fs.map fCol).length us ((DU.same SU').new ht) ((SU.trans (KP.same SU').sb).trans (SB.new ht)) (new t ?_) upd_same ⟨new _ hNu.top, fun u hu => new _ (hNu.row u hu)⟩ (hGu.new ht) (by omega) (by omega) (by omega) ⟨by omega, fun u hu => ?_⟩
      · cases e : U t with
        | none => rfl
        | some o =>
          rw [SU' _ _ e] at ht
          cases ht
      · obtain ⟨h1, h2⟩ := hur u hu
        refine ⟨by omega, fun z hz => ?_⟩
        obtain ⟨t2, ht2, hz2⟩ := h2 z hz
        have := (hfr t2 ht2).2.2.2.2.2 z hz2
        omega
end
end Lk

set_option Elab.async false
set_option linter.all false
set_option maxRecDepth 100000
set_option maxHeartbeats 4000000
namespace Lk
open PySem L2
abbrev s_law_some_machine : Stmt := top 44
abbrev N_law_some_machine : List Str := ["deal", "form"]
abbrev P_law_some_machine : List Str := ["deal"]
theorem sc_law_some_machine : FnScope N_law_some_machine P_law_some_machine (defScope s_law_some_machine) := ⟨rfl, rfl, rfl, by decide +kernel, rfl, by decide +kernel, by decide +kernel⟩
section
variable {P : Program} {w : World} {K : PySem.W.Frag} {mg : Str → Option Value} {base : Heap}
theorem ok_some {f fa fg fy fl : Addr} {fd fda fdg fdy fdl : FuncData} (A0 : Df K mg "_law_some_machine" s_law_some_machine f fd P_law_some_machine) (d_law_any : Df K mg "_law_any" s_law_any fa fda P_law_any) (d_law_graded : Df K mg "_law_graded" s_law_graded fg fdg P_law_graded) (d_law_any_machine : Df K mg "_law_any_machine" s_law_any_machine fy fdy P_law_any_machine) (d_law_layered : Df K mg "_law_layered" s_law_layered fl fdl P_law_layered)
    (G_law_graded : FnOk P w K mg base CX0 5 fg fdg P_law_graded spGraded) (G_law_any_machine : FnOk P w K mg base CX0 3 fy fdy P_law_any_machine spAnyM) (G_law_layered : FnOk P w K mg base CX0 3 fl fdl P_law_layered spAnyM) (T : Txt mg) : FnOk P w K mg base CX0 6 f fd P_law_some_machine spAnyM := by
  have G_law_any : FnOk P w K mg base CX0 1 fa fda P_law_any spAny := ok_any d_law_any T
  refine A0.F.ok sc_law_some_machine (fun vs H Q E h => ?_) (fun cdv Ar outer s H vs Q E hr h => ?_)
  · obtain ⟨d, l, rfl, _⟩ := h
    rfl
  · obtain ⟨d, l, rfl, D, k⟩ := h
    refine ⟨_, (pss_cons (ps_set (i := 1) sc_law_some_machine.nd rfl (Or.inl rfl) (pe_call G_law_any (hr.mono (by decide)) rfl d_law_any.g d_law_any.F.kp d_law_any.b .nil pass0 (pa_cons (pv 0) (pa_cons pe_int pa_nil))))
    (pss_cons (ps_if (pt_cmpR op_eq (pv 1) pe_int (nomark _)) (pss_one (ps_ret (pe_call G_law_graded (hr.mono (by decide)) rfl d_law_graded.g d_law_graded.F.kp d_law_graded.b .nil pass0 (pa_cons (pv 0) pa_nil)))) pss_nil)
    (pss_one (ps_ret (pe_ifExp (pt_cmpR op_eq (pv 1) pe_int (nomark _)) (pe_call G_law_any_machine (hr.mono (by decide)) rfl d_law_any_machine.g d_law_any_machine.F.kp d_law_any_machine.b .nil pass0 (pa_cons (pv 0) pa_nil)) (pe_call G_law_layered (hr.mono (by decide)) rfl d_law_layered.g d_law_layered.F.kp d_law_layered.b .nil pass0 (pa_cons (pv 0) pa_nil))))))), ?_⟩
    refine ⟨_, rfl, d, l, 4, rfl, by decide, by decide, D, fun H1 x D1 S1 x0 x1 => ?_⟩
    have k1 : ∀ (H' : Hp) (t p : Addr) (A : Nat) (ts : List (Addr × List Int)), DealAt H' d l → SB d l H1 H' → H1 t = none → H' t = some (.tup [.int A, .ref p]) → NewG H1 p ts → GridAt H' p ts → 0 < A → A ≤ 3 → (ts.length : Int) ≤ 4 → RowsOk A ts → Q (.ref t) H' := fun H' t p A ts D' S' t0 ht hN hG A0 A3 hl R => k H' t p A ts D' (S1.trans S') (S1.kp.free (D1.free t0) t0) ht (hN.back S1.kp (D1.free hN.top) fun u hu => D1.free (hN.row u hu)) hG A0 A3 hl R
    refine ⟨_, rfl, rfl, _, rfl, ite2 (fun _ => ?_) (fun _ => ?_)⟩
    · exact ⟨_, rfl, d, l, rfl, D1, k1⟩
    · refine ⟨_, rfl, rfl, _, rfl, ite2 (fun _ => ?_) (fun _ => ?_)⟩
      · exact ⟨_, rfl, d, l, rfl, D1, k1⟩
      · exact ⟨_, rfl, d, l, rfl, D1, k1⟩
end
end Lk

set_option Elab.async false
set_option linter.all false
set_option maxRecDepth 100000
set_option maxHeartbeats 4000000
/-! list(zip(t, u)) of two tuples; d.setdefault(k, v) where keys are tuples -/
namespace Lk
open PySem PySem.Spec PyProof.Rows L2
open PySem.W (kdx_alive)
section
variable {prog : Program} {w : World} {A : Around} {E : Value → Shared → Prop} {s : Shared} {z TI TO T i1 i2 l1 l2 : Addr} {f : Bool} {oT : Obj} {a b : Nat} {xs ys : Array Value}
/-- one more pair where the pair that was given out is still held -/
theorem zt_item {x y : Value} {Q : Option Value → Shared → Prop} (D : ZipApart z TI TO i1 i2 l1 l2) (hz : IsZipHeld s.heap z TI TO T f) (hT : s.heap.get? T = some oT) (hI : IsPair s.heap TI (.ref i1) (.ref i2))
    (t1 : s.heap.IsTupleIter i1 l1 a) (t2 : s.heap.IsTupleIter i2 l2 b) (q1 : s.heap.IsTuple l1 xs) (q2 : s.heap.IsTuple l2 ys) (hx : xs[a]? = some x) (hy : ys[b]? = some y)
    (go : ∀ g, IsZipHeld g z TI TO T true → g.IsTupleIter i1 l1 (a + 1) → g.IsTupleIter i2 l2 (b + 1) → IsPair g s.heap.objs.size x y → g.objs.size = s.heap.objs.size + 1 →
      (∀ c o, c ≠ z → c ≠ i1 → c ≠ i2 → s.heap.get? c = some o → g.get? c = some o) → Q (some (.ref s.heap.objs.size)) { s with heap := g }) :
    wpAny (model prog w) A (pyNext (.ref z)) Q E s := by
  have ty : s.TypeIs (.ref z) "zip" := ⟨_, hz, rfl⟩
  unfold pyNext
  refine wpAny_bind (wpAny_attempt (wpAny_callSpecial?_slot (name := Str.ofString "__next__") ty F.slot_zip_next (wpAny_call_entry F.slot_zip_next ty F.entry_zip_next ?_ (F.args_zip_next_1 _))))
  show wpAny _ _ (field (.ref z) 2 >>= _) _ _ s
  refine wpAny_bind (wpAny_field (x := .bool false) hz rfl rfl ?_)
  show wpAny _ _ (field (.ref z) 3 >>= _) _ _ s
  refine wpAny_bind (wpAny_field (x := .ref TI) hz rfl rfl ?_)
  refine wpAny_bind (wpAny_seqItems hI rfl ?_)
  show wpAny _ _ (Builtin.SmallTypes.ownedTupleIsFree (.ref z) >>= _) _ _ s
  refine wpAny_bind (wpAny_tupleHeld_zip hz hT fun g1 z1 u1 => ?_)
  simp only [Bool.false_eq_true, if_false]
  refine wpAny_bind ?_
  rw [← Array.forIn_toList]
  simp only [List.forIn_cons, List.forIn_nil]
  refine wpAny_bind (wpAny_bind (wpAny_holding ?_))
  show wpAny _ _ (Builtin.SmallTypes.nextOf (.ref i1) >>= _) _ _ { s with heap := g1 }
  refine wpAny_bind (RZ.nextOf_tuple_item (s := { s with heap := g1 }) (t1.extBut u1.extBut D.i1z) (q1.extBut u1.extBut D.l1z) hx fun g2 t1' u2 => wpAny_pure ?_)
  refine wpAny_pure ?_
  refine wpAny_bind (wpAny_bind (wpAny_holding ?_))
  show wpAny _ _ (Builtin.SmallTypes.nextOf (.ref i2) >>= _) _ _ { s with heap := g2 }
  refine wpAny_bind (RZ.nextOf_tuple_item (s := { s with heap := g2 }) ((t2.extBut u1.extBut D.i2z).extBut u2.extBut D.i12.symm) ((q2.extBut u1.extBut D.l2z).extBut u2.extBut D.l2i1) hy fun g3 t2' u3 => wpAny_pure ?_)
  refine wpAny_pure (wpAny_pure ?_)
  show wpAny _ _ (newTuple [x, y] >>= _) _ _ { s with heap := g3 }
  refine wpAny_bind (wpAny_newTuple ?_)
  have n3 : g3.objs.size = s.heap.objs.size := by rw [u3.1, u2.1, u1.1]
  have z3 : IsZipHeld g3 z TI TO T true := u3.extBut _ _ D.i2z.symm (u2.extBut _ _ D.i1z.symm z1)
  have k3 : ∀ c o, c ≠ z → c ≠ i1 → c ≠ i2 → s.heap.get? c = some o → g3.get? c = some o := fun c o c1 c2 c3 e => u3.extBut _ _ c3 (u2.extBut _ _ c2 (u1.extBut _ _ c1 e))
  have t13 : g3.IsTupleIter i1 l1 (a + 1) := t1'.extBut u3.extBut D.i12
  have pp : IsPair (g3.push { cls := .type "tuple", data := .seq #[x, y] }) g3.objs.size x y := Heap.get?_push_size _ rfl
  have n4 : (g3.push { cls := .type "tuple", data := .seq #[x, y] }).objs.size = g3.objs.size + 1 := Heap.size_push ..
  have fin := go (g3.push { cls := .type "tuple", data := .seq #[x, y] }) (Heap.get?_push_of_some _ z3) (t13.at fun o e => Heap.get?_push_of_some _ e) (t2'.at fun o e => Heap.get?_push_of_some _ e) (by rw [← n3]; exact pp) (by rw [n4, n3]) fun c o c1 c2 c3 e => Heap.get?_push_of_some _ (k3 c o c1 c2 c3 e)
  refine wpAny_pure ⟨_, rfl, ?_⟩
  show wpAny _ _ (pure (some (Value.ref g3.objs.size))) _ _ _
  rw [n3]
  exact wpAny_pure fin
/-- no pair more, the one that was given out held -/
theorem zt_end {Q : Option Value → Shared → Prop} (hh : A.handled = none) (D : ZipApart z TI TO i1 i2 l1 l2) (hz : IsZipHeld s.heap z TI TO T f) (hT : s.heap.get? T = some oT) (hI : IsPair s.heap TI (.ref i1) (.ref i2))
    (t1 : s.heap.IsTupleIter i1 l1 a) (q1 : s.heap.IsTuple l1 xs) (hx : xs[a]? = none)
    (go : ∀ g, (∀ c o, c ≠ z → c ≠ i1 → c ≠ i2 → s.heap.get? c = some o → g.get? c = some o) → Q none { s with heap := g }) : wpAny (model prog w) A (pyNext (.ref z)) Q E s := by
  have ty : s.TypeIs (.ref z) "zip" := ⟨_, hz, rfl⟩
  unfold pyNext
  refine wpAny_bind (wpAny_attempt (wpAny_callSpecial?_slot (name := Str.ofString "__next__") ty F.slot_zip_next (wpAny_call_entry F.slot_zip_next ty F.entry_zip_next ?_ (F.args_zip_next_1 _))))
  show wpAny _ _ (field (.ref z) 2 >>= _) _ _ s
  refine wpAny_bind (wpAny_field (x := .bool false) hz rfl rfl ?_)
  show wpAny _ _ (field (.ref z) 3 >>= _) _ _ s
  refine wpAny_bind (wpAny_field (x := .ref TI) hz rfl rfl ?_)
  refine wpAny_bind (wpAny_seqItems hI rfl ?_)
  show wpAny _ _ (Builtin.SmallTypes.ownedTupleIsFree (.ref z) >>= _) _ _ s
  refine wpAny_bind (wpAny_tupleHeld_zip hz hT fun g1 z1 u1 => ?_)
  simp only [Bool.false_eq_true, if_false]
  refine wpAny_bind ?_
  rw [← Array.forIn_toList]
  simp only [List.forIn_cons, List.forIn_nil]
  refine wpAny_bind (wpAny_bind (wpAny_holding ?_))
  show wpAny _ _ (Builtin.SmallTypes.nextOf (.ref i1) >>= _) _ _ { s with heap := g1 }
  refine wpAny_bind (RZ.nextOf_tuple_end (s := { s with heap := g1 }) hh (t1.extBut u1.extBut D.i1z) (q1.extBut u1.extBut D.l1z) hx fun g2 e u2 he => ?_)
  obtain ⟨o, ho, hc⟩ := he
  refine wpAny_bind (wpAny_isInstance (T := "StopIteration") (b := true) ⟨o, ho, hc⟩ isSubtype_stop ?_)
  exact wpAny_pure (go _ fun c o c1 c2 _ x => u2 _ _ c2 (u1.extBut _ _ c1 x))
end
/-- pairs laid so far -/
structure ZPs (h : Heap) (S : Addr) (xs ys : Array Value) (as : List Addr) : Prop where
  up : as.Pairwise (· < ·)
  over : ∀ t ∈ as, S < t
  pair : ∀ (j : Nat) (t : Addr), as[j]? = some t → ∃ x y, xs[j]? = some x ∧ ys[j]? = some y ∧ IsPair h t x y
structure ZSt (h : Heap) (z TI TO i1 i2 l1 l2 S : Addr) (xs ys : Array Value) (i : Nat) : Prop where
  zip : (i = 0 ∧ IsZip h z TI TO .none ∧ IsPair h TO .none .none) ∨ ∃ (T : Addr) (f : Bool) (oT : Obj), S < T ∧ IsZipHeld h z TI TO T f ∧ h.get? T = some oT
  ti : IsPair h TI (.ref i1) (.ref i2)
  t1 : h.IsTupleIter i1 l1 i
  t2 : h.IsTupleIter i2 l2 i
  q1 : h.IsTuple l1 xs
  q2 : h.IsTuple l2 ys
theorem ZSt.move {h h' : Heap} {z TI TO i1 i2 l1 l2 S : Addr} {xs ys : Array Value} {i : Nat} (x : ZSt h z TI TO i1 i2 l1 l2 S xs ys i) (lt : z < S ∧ TI < S ∧ TO < S ∧ i1 < S ∧ i2 < S ∧ l1 < S ∧ l2 < S) (k : ∀ b o, b ≠ S → h.get? b = some o → h'.get? b = some o) : ZSt h' z TI TO i1 i2 l1 l2 S xs ys i := by
  obtain ⟨e1, e2, e3, e4, e5, e6, e7⟩ := lt
  refine ⟨?_, k _ _ (Nat.ne_of_lt e2) x.ti, x.t1.at fun o e => k _ o (Nat.ne_of_lt e4) e, x.t2.at fun o e => k _ o (Nat.ne_of_lt e5) e, ?_, ?_⟩
  · rcases x.zip with ⟨r1, r2, r3⟩ | ⟨T, f, oT, r1, r2, r3⟩
    · exact .inl ⟨r1, k _ _ (Nat.ne_of_lt e1) r2, k _ _ (Nat.ne_of_lt e3) r3⟩
    · exact .inr ⟨T, f, oT, r1, k _ _ (Nat.ne_of_lt e1) r2, k _ _ (Nat.ne_of_gt r1) r3⟩
  · obtain ⟨o, ho, r⟩ := x.q1
    exact ⟨o, k _ _ (Nat.ne_of_lt e6) ho, r⟩
  · obtain ⟨o, ho, r⟩ := x.q2
    exact ⟨o, k _ _ (Nat.ne_of_lt e7) ho, r⟩
section
variable {prog : Program} {w : World} {A : Around} {s : Shared} {z TI TO i1 i2 l1 l2 S : Addr} {xs ys : Array Value} {n : Nat} {R : Result → Shared → Prop} {res : Value}
theorem zl_loop (hh : A.handled = none) (D : ZipApart z TI TO i1 i2 l1 l2) (lt : z < S ∧ TI < S ∧ TO < S ∧ i1 < S ∧ i2 < S ∧ l1 < S ∧ l2 < S) (hn : n ≤ sizeLine) (n0 : 0 < n) (hx : xs.size = n) (hy : ys.size = n) (h0 : Heap)
    (fin : ∀ h tk acc c as, (∀ b o, b ≠ S → b ≠ z → b ≠ TO → b ≠ i1 → b ≠ i2 → h0.get? b = some o → h.get? b = some o) → h.get? S = some { cls := .type "list", dict := none, data := .seq acc c, slots := #[] } → as.length = n → ZPs h S xs ys as → acc.toList = as.map Value.ref → R (.ok (.ret res)) { s with heap := h, toks := tk }) :
    ∀ (k i : Nat) (h : Heap) (tk c : Nat) (acc : Array Value) (as : List Addr), n - i = k → i ≤ n → ZSt h z TI TO i1 i2 l1 l2 S xs ys i → (∀ b o, b ≠ S → b ≠ z → b ≠ TO → b ≠ i1 → b ≠ i2 → h0.get? b = some o → h.get? b = some o) →
      h.get? S = some { cls := .type "list", dict := none, data := .seq acc c, slots := #[] } → as.length = i → ZPs h S xs ys as → acc.toList = as.map Value.ref → codeAny (model prog w) A (.builtin "list.extend.loop" ⟨[.ref S, .ref z, res], []⟩) R { s with heap := h, toks := tk } := by
  obtain ⟨e1, e2, e3, e4, e5, e6, e7⟩ := id lt
  intro k
  induction k with
  | zero =>
    intro i h tk c acc as hk hi st kp hS al zp ac
    obtain rfl : i = n := by omega
    refine codeAny_builtin PySem.F.entry_extend_loop ?_
    rw [Around.under_plainId PySem.F.plain_extend_loop _]
    show wpAny _ A.in1 (pyNext (.ref z) >>= _) _ _ _
    rcases st.zip with ⟨r, _⟩ | ⟨T, f, oT, r1, r2, r3⟩
    · omega
    · refine wpAny_bind (zt_end (A := A.in1) (s := { s with heap := h, toks := tk }) hh D r2 r3 st.ti st.t1 st.q1 (Array.getElem?_eq_none (by omega)) fun g kg => ?_)
      refine wpAny_pure (fin g tk acc c as (fun b o b1 b2 b3 b4 b5 e => kg b o b2 b4 b5 (kp b o b1 b2 b3 b4 b5 e)) (kg _ _ (Nat.ne_of_gt e1) (Nat.ne_of_gt e4) (Nat.ne_of_gt e5) hS) al ⟨zp.up, zp.over, fun j t ht => ?_⟩ ac)
      obtain ⟨x, y, h1, h2, h3⟩ := zp.pair j t ht
      have o := zp.over t (List.mem_of_getElem? ht)
      exact ⟨x, y, h1, h2, kg _ _ (Nat.ne_of_gt (Nat.lt_trans e1 o)) (Nat.ne_of_gt (Nat.lt_trans e4 o)) (Nat.ne_of_gt (Nat.lt_trans e5 o)) h3⟩
  | succ k ih =>
    intro i h tk c acc as hk hi st kp hS al zp ac
    have hlt : i < n := by omega
    obtain ⟨x, ex⟩ : ∃ x, xs[i]? = some x := ⟨xs[i], Array.getElem?_eq_getElem (by omega)⟩
    obtain ⟨y, ey⟩ : ∃ y, ys[i]? = some y := ⟨ys[i], Array.getElem?_eq_getElem (by omega)⟩
    have asz : acc.size = i := by rw [← Array.length_toList, ac, List.length_map, al]
    have Sl : S < h.objs.size := Heap.lt_size hS
    refine codeAny_builtin PySem.F.entry_extend_loop ?_
    rw [Around.under_plainId PySem.F.plain_extend_loop _]
    show wpAny _ A.in1 (pyNext (.ref z) >>= _) _ _ _
    have step : ∀ (g : Heap), (∃ (T : Addr) (f : Bool) (oT : Obj), S < T ∧ IsZipHeld g z TI TO T f ∧ g.get? T = some oT) → g.IsTupleIter i1 l1 (i + 1) → g.IsTupleIter i2 l2 (i + 1) → IsPair g h.objs.size x y → (∀ c o, c ≠ z → c ≠ TO → c ≠ i1 → c ≠ i2 → h.get? c = some o → g.get? c = some o) →
        wpAny (model prog w) A.in1 (updateSeq S (·.push (Value.ref h.objs.size)) >>= fun _ => again (.builtin "list.extend.loop" ⟨[.ref S, .ref z, res], []⟩))
          (fun fin s' => match fin with | .done f => R (.ok f) s' | .again c' => c'.quiet = true ∧ codeAny (model prog w) A c' R s') (fun e s' => R (.error e) s') { s with heap := g, toks := tk } := by
      intro g hz t1 t2 pp kg
      have gS := kg S _ (Nat.ne_of_gt e1) (Nat.ne_of_gt e3) (Nat.ne_of_gt e4) (Nat.ne_of_gt e5) hS
      have off : ∀ b o, b ≠ S → g.get? b = some o → (g.update S (Obj.mapSeq (·.push (Value.ref h.objs.size)))).get? b = some o := fun b o hb e => (Heap.get?_update_other _ _ (Ne.symm hb)).trans e
      refine wpAny_bind ?_
      refine wpAny_updateSeq gS rfl (wpAny_pure ⟨plainId_quiet PySem.F.plain_extend_loop _, ih (i + 1) (g.update S (Obj.mapSeq (·.push (Value.ref h.objs.size)))) tk _ (acc.push (Value.ref h.objs.size)) (as ++ [h.objs.size]) (by omega) hlt (ZSt.move (h := g) ⟨.inr hz, ?_, t1, t2, ?_, ?_⟩ lt off) (fun b o b1 b2 b3 b4 b5 e => off b o b1 (kg b o b2 b3 b4 b5 (kp b o b1 b2 b3 b4 b5 e))) (Heap.get?_update_self _ gS rfl) (by rw [List.length_append, al]; rfl) ⟨?_, ?_, ?_⟩ (by rw [Array.toList_push, ac, List.map_append]; rfl)⟩)
        (by rw [asz]; omega) (by show (acc.push (Value.ref h.objs.size)).size ≤ sizeLine + 1; rw [Array.size_push, asz]; omega)
      · exact kg _ _ D.TIz D.TITO D.TIi1 D.TIi2 st.ti
      · obtain ⟨o, ho, r⟩ := st.q1
        exact ⟨o, kg _ _ D.l1z D.l1TO D.l1i1 D.l1i2 ho, r⟩
      · obtain ⟨o, ho, r⟩ := st.q2
        exact ⟨o, kg _ _ D.l2z D.l2TO D.l2i1 D.l2i2 ho, r⟩
      · refine List.pairwise_append.mpr ⟨zp.up, List.pairwise_singleton _ _, fun a ha b hb => ?_⟩
        rw [List.mem_singleton.mp hb]
        obtain ⟨j, hj⟩ := List.mem_iff_getElem?.mp ha
        obtain ⟨_, _, _, _, h3⟩ := zp.pair j a hj
        exact Heap.lt_size h3
      · intro t ht
        rcases List.mem_append.mp ht with q | q
        · exact zp.over t q
        · rw [List.mem_singleton.mp q]
          exact Sl
      · intro j t ht
        by_cases hj : j < as.length
        · rw [List.getElem?_append_left hj] at ht
          obtain ⟨u, v, h1, h2, h3⟩ := zp.pair j t ht
          have o := zp.over t (List.mem_of_getElem? ht)
          exact ⟨u, v, h1, h2, off _ _ (Nat.ne_of_gt o) (kg _ _ (Nat.ne_of_gt (Nat.lt_trans e1 o)) (Nat.ne_of_gt (Nat.lt_trans e3 o)) (Nat.ne_of_gt (Nat.lt_trans e4 o)) (Nat.ne_of_gt (Nat.lt_trans e5 o)) h3)⟩
        · have hl := (List.getElem?_eq_some_iff.mp ht).1
          rw [List.length_append, List.length_singleton] at hl
          obtain rfl : j = as.length := by omega
          have e : h.objs.size = t := by simpa using ht
          subst e
          rw [al]
          exact ⟨x, y, ex, ey, off _ _ (Nat.ne_of_gt Sl) pp⟩
    rcases st.zip with ⟨r, r1, r2⟩ | ⟨T, f, oT, r1, r2, r3⟩
    · refine wpAny_bind (RZ.pyNext_zipT_item (A := A.in1) (s := { s with heap := h, toks := tk }) D r1 st.ti r2 st.t1 st.t2 st.q1 st.q2 ex ey fun g g1 g2 g3 g4 g5 g6 g7 => ?_)
      exact step g ⟨h.objs.size, false, _, Sl, g1, g5⟩ g3 g4 g5 g7
    · refine wpAny_bind (zt_item (A := A.in1) (s := { s with heap := h, toks := tk }) D r2 r3 st.ti st.t1 st.t2 st.q1 st.q2 ex ey fun g g1 g3 g4 g5 g6 g7 => ?_)
      exact step g ⟨T, true, oT, r1, g1, g7 _ _ (Nat.ne_of_gt (Nat.lt_trans e1 r1)) (Nat.ne_of_gt (Nat.lt_trans e4 r1)) (Nat.ne_of_gt (Nat.lt_trans e5 r1)) r3⟩ g3 g4 g5 fun c o c1 _ c3 c4 e => g7 c o c1 c3 c4 e
end
end Lk

set_option Elab.async false
set_option linter.all false
set_option maxRecDepth 100000
set_option maxHeartbeats 4000000
/-! list(zip(t, u)) of two tuples as a rule; d.setdefault(k, v) where keys are tuples -/
namespace Lk
open PySem PySem.Spec PyProof.Rows L2
/-- the pairs tracked at their addresses -/
def putZ : Hp → List Addr → List (V × V) → Hp
  | H, t :: ts, q :: qs => putZ (upd H t (.tup [q.1, q.2])) ts qs
  | H, _, _ => H
theorem putZ_off {b : Addr} : ∀ (ts : List Addr) (qs : List (V × V)) (H : Hp), b ∉ ts → putZ H ts qs b = H b
  | [], _, _, _ => rfl
  | _ :: _, [], _, _ => rfl
  | t :: ts, q :: qs, H, h => by
    show putZ (upd H t (.tup [q.1, q.2])) ts qs b = H b
    rw [putZ_off ts qs _ fun m => h (List.mem_cons_of_mem _ m), upd_ne fun e => h (by rw [e]; exact List.mem_cons_self)]
theorem putZ_at : ∀ (ts : List Addr) (qs : List (V × V)) (H : Hp), ts.length = qs.length → ts.Nodup → ∀ (j : Nat) (t : Addr) (q : V × V), ts[j]? = some t → qs[j]? = some q → putZ H ts qs t = some (.tup [q.1, q.2])
  | [], _, _, _, _, j, t, q, h, _ => by simp at h
  | _ :: _, [], _, h, _, _, _, _, _, _ => by simp at h
  | t :: ts, q :: qs, H, hl, hn, j, t', q', h1, h2 => by
    have hn' := List.nodup_cons.mp hn
    show putZ (upd H t (.tup [q.1, q.2])) ts qs t' = some (.tup [q'.1, q'.2])
    cases j with
    | zero =>
      obtain rfl := Option.some.inj h1
      obtain rfl := Option.some.inj h2
      rw [putZ_off ts qs _ hn'.1, upd_same]
    | succ j => exact putZ_at ts qs _ (Nat.succ.inj hl) hn'.2 j t' q' h1 h2
theorem refs_vals : ∀ ts : List Addr, Vals (ts.map V.ref) (ts.map Value.ref)
  | [] => .nil
  | _ :: ts => .cons rfl (refs_vals ts)
/-- what list(zip(t, u)) leaves -/
def rZips (K : PySem.W.Frag) : List V → Hp → VK → Prop := fun vs H Q => ∃ (a b : Addr) (xs ys : List V), vs = [.ref a, .ref b] ∧ SqT K H a xs ∧ SqT K H b ys ∧ xs.length = ys.length ∧ 0 < xs.length ∧
  ∀ (H' : Hp) (p : Addr) (ts : List Addr), Same H H' → H p = none → (∀ t ∈ ts, H t = none) → ts.Nodup → p ∉ ts → ts.length = xs.length → H' p = some (.lst (ts.map V.ref)) → (∀ (j : Nat) (t : Addr) (x y : V), ts[j]? = some t → xs[j]? = some x → ys[j]? = some y → H' t = some (.tup [x, y])) → Q (.ref p) H'
def tListZip (K : PySem.W.Frag) (ta : TA) : TE := fun σ H Q => ta σ H fun vs H1 => rZips K vs H1 Q
theorem zip_no_len : typeLookup (.type "zip") "__len__" = pure none := by
  rw [typeLookup_type, builtinLookup_eq_fast]
  kernel_rfl
theorem zip_no_hint : typeLookup (.type "zip") "__length_hint__" = pure none := by
  rw [typeLookup_type, builtinLookup_eq_fast]
  kernel_rfl
section
variable {X : Cx} {e e2 : Expr} {ta : TA} {p p2 cpos pos : Pos}
theorem zips_laid {pins : List (Addr × Obj)} {σ : L2.St} {H : Hp} {s : Shared} {h' : Heap} {tk : Nat} {xs ys : List V} {us ws : List Value} {acc : Array Value} {c : Nat} {ts : List Addr} {S : Addr} (I : Inv X pins σ H s) (hz : xs.length ≤ sizeLine) (hl : xs.length = ys.length) (r1 : Vals xs us) (r2 : Vals ys ws)
    (hk : ∀ b o, s.heap.get? b = some o → h'.get? b = some o) (lo : s.heap.objs.size ≤ S) (hS : h'.get? S = some { cls := .type "list", dict := none, data := .seq acc c, slots := #[] }) (ht : ts.length = xs.length) (zp : ZPs h' S us.toArray ws.toArray ts) (ha : acc.toList = ts.map Value.ref) :
    ∃ H' : Hp, Same H H' ∧ H S = none ∧ (∀ t ∈ ts, H t = none) ∧ ts.Nodup ∧ S ∉ ts ∧ H' S = some (.lst (ts.map V.ref)) ∧ (∀ (j : Nat) (t : Addr) (x y : V), ts[j]? = some t → xs[j]? = some x → ys[j]? = some y → H' t = some (.tup [x, y])) ∧ Inv X pins σ H' { s with heap := h', toks := tk } := by
  have nd : ts.Nodup := List.Pairwise.imp (fun {a b} (h : a < b) => Nat.ne_of_lt h) zp.up
  have nS : S ∉ ts := fun m => Nat.lt_irrefl _ (zp.over _ m)
  have nw : ∀ t ∈ ts, H t = none := fun t m => I.hok.fresh (Nat.le_of_lt (Nat.lt_of_le_of_lt lo (zp.over t m)))
  have nwS : H S = none := I.hok.fresh lo
  have lq : ts.length = (xs.zip ys).length := by rw [List.length_zip, ← hl, Nat.min_self, ht]
  have at1 := putZ_at ts (xs.zip ys) (upd H S (.lst (ts.map V.ref))) lq nd
  have at2 : ∀ (j : Nat) (t : Addr) (x y : V), ts[j]? = some t → xs[j]? = some x → ys[j]? = some y → putZ (upd H S (.lst (ts.map V.ref))) ts (xs.zip ys) t = some (.tup [x, y]) := fun j t x y h1 h2 h3 => at1 j t (x, y) h1 (List.getElem?_zip_eq_some.mpr ⟨h2, h3⟩)
  have off : ∀ b, b ∉ ts → b ≠ S → putZ (upd H S (.lst (ts.map V.ref))) ts (xs.zip ys) b = H b := fun b h1 h2 => by rw [putZ_off ts _ _ h1, upd_ne h2]
  have kp : ∀ b u, H b = some u → putZ (upd H S (.lst (ts.map V.ref))) ts (xs.zip ys) b = some u := fun b u e => by
    rw [off b (fun m => by rw [nw b m] at e; cases e) fun q => by rw [q, nwS] at e; cases e]
    exact e
  have atS : putZ (upd H S (.lst (ts.map V.ref))) ts (xs.zip ys) S = some (.lst (ts.map V.ref)) := by rw [putZ_off ts _ _ nS, upd_same]
  have low : ∀ b o, s.heap.get? b = some o → b ∉ ts ∧ b ≠ S := fun b o e => ⟨fun m => absurd (Heap.lt_size e) (Nat.not_lt.mpr (Nat.le_of_lt (Nat.lt_of_le_of_lt lo (zp.over b m)))), fun q => absurd (Heap.lt_size e) (Nat.not_lt.mpr (by rw [q]; exact lo))⟩
  refine ⟨putZ (upd H S (.lst (ts.map V.ref))) ts (xs.zip ys), kp, nwS, nw, nd, nS, atS, at2, ?_⟩
  refine I.call' (ch := []) rfl ⟨fun b o q _ _ _ => hk b o q, fun b o q _ _ _ => ⟨o.slots, hk b o q⟩, fun b o q n _ => ?_, fun b o q _ => ⟨o, hk b o q⟩, fun b zs q => kp b _ q, fun b o u q => kp b _ q, fun b ps q => ⟨#[], by rw [kp b _ q]; simp⟩⟩ (fun b u q => ?_) I.bare fun b m => by simp at m
  · obtain ⟨z1, z2⟩ := low b o q
    rw [off b z1 z2]
    exact n
  · by_cases hb : b ∈ ts
    · obtain ⟨j, hj⟩ := List.mem_iff_getElem?.mp hb
      have lj := (List.getElem?_eq_some_iff.mp hj).1
      obtain ⟨x, hx⟩ : ∃ x, xs[j]? = some x := ⟨_, List.getElem?_eq_getElem (by omega)⟩
      obtain ⟨y, hy⟩ : ∃ y, ys[j]? = some y := ⟨_, List.getElem?_eq_getElem (by omega)⟩
      rw [at2 j b x y hj hx hy] at q
      cases q
      obtain ⟨u, v, f1, f2, f3⟩ := zp.pair j b hj
      obtain ⟨u', g1, g2⟩ := r1.get hx
      obtain ⟨v', g3, g4⟩ := r2.get hy
      have f1 : us[j]? = some u := by simpa using f1
      have f2 : ws[j]? = some v := by simpa using f2
      rw [f1] at g1
      rw [f2] at g3
      cases g1
      cases g3
      exact ⟨by show 2 ≤ sizeLine; decide, [u, v], .cons g2 (.cons g4 .nil), ⟨_, f3, rfl, _, rfl⟩⟩
    · by_cases hb2 : b = S
      · rw [hb2] at q ⊢
        rw [atS] at q
        cases q
        refine ⟨by rw [List.length_map, ht]; exact hz, acc.toList, c, by rw [ha]; exact refs_vals ts, ?_⟩
        rw [Array.toArray_toList]
        exact hS
      · rw [off b hb hb2] at q
        exact (I.hok b u q).stay (fun d v _ y => hk d v y) (fun d y => kp d _ y) fun d zs y => kp d _ y
theorem call_list_zip {pins : List (Addr × Obj)} {σ : L2.St} {H : Hp} {s : Shared} {Q : VK} {xs ys : List V} {us ws : List Value} {a b z TI TO i1 i2 : Addr} (hc : X.calm = true) (D : ZipApart z TI TO i1 i2 a b) (r1 : Vals xs us) (r2 : Vals ys ws) (hl : xs.length = ys.length) (h0 : 0 < xs.length) (hz : xs.length ≤ sizeLine)
    (hi : IsZip s.heap z TI TO .none) (hI : IsPair s.heap TI (.ref i1) (.ref i2)) (hO : IsPair s.heap TO .none .none) (t1 : s.heap.IsTupleIter i1 a 0) (t2 : s.heap.IsTupleIter i2 b 0) (q1 : s.heap.IsTuple a us.toArray) (q2 : s.heap.IsTuple b ws.toArray) {s0 : Shared} (I0 : Inv X pins σ H s0) (ks : ∀ b o, s0.heap.get? b = some o → s.heap.get? b = some o) (es : s = { s0 with heap := s.heap }) (le : s0.heap.objs.size ≤ s.heap.objs.size)
    (nz : ∀ b o, s0.heap.get? b = some o → b ≠ z ∧ b ≠ TO ∧ b ≠ i1 ∧ b ≠ i2)
    (go : ∀ (H' : Hp) (p : Addr) (ts : List Addr), Same H H' → H p = none → (∀ t ∈ ts, H t = none) → ts.Nodup → p ∉ ts → ts.length = xs.length → H' p = some (.lst (ts.map V.ref)) → (∀ (j : Nat) (t : Addr) (x y : V), ts[j]? = some t → xs[j]? = some x → ys[j]? = some y → H' t = some (.tup [x, y])) → Q (.ref p) H') :
    wpAny (model X.prog X.w) X.A (call (.type "list") [.ref z]) (EP X pins σ Q) X.xe s := by
  have l1 := r1.length
  have l2 := r2.length
  have hh := I0.ok.hd hc
  have sz : ∀ {b : Addr} {o : Obj}, s.heap.get? b = some o → b < s.heap.objs.size := fun e => Heap.lt_size e
  have lt : z < s.heap.objs.size ∧ TI < s.heap.objs.size ∧ TO < s.heap.objs.size ∧ i1 < s.heap.objs.size ∧ i2 < s.heap.objs.size ∧ a < s.heap.objs.size ∧ b < s.heap.objs.size := by
    obtain ⟨_, x1, _⟩ := id t1
    obtain ⟨_, x2, _⟩ := id t2
    obtain ⟨_, x3, _⟩ := id q1
    obtain ⟨_, x4, _⟩ := id q2
    exact ⟨sz hi, sz hI, sz hO, sz x1, sz x2, sz x3, sz x4⟩
  refine callType_codes (Q₁ := fun obj s₁ => obj = .ref s.heap.objs.size ∧ s₁ = { s with heap := s.heap.push { cls := .type "list", data := .seq #[] } }) PySem.F.called_list (PySem.F.typeCall_list_1 _) PySem.F.entry_list_init (code_list_new _ ⟨rfl, rfl⟩) fun obj s₁ h₁ => ?_
  obtain ⟨rfl, rfl⟩ := h₁
  have hS : (s.heap.push { cls := .type "list", data := .seq #[] }).get? s.heap.objs.size = some { cls := .type "list", data := .seq #[] } := Heap.get?_push_size _ rfl
  refine ⟨⟨_, hS, rfl⟩, PySem.F.args_list_init_2 _ _, ?_⟩
  show wpAny _ _ (do let old ← Builtin.List.listItems (.ref s.heap.objs.size); Builtin.List.listUpdate (.ref s.heap.objs.size) (fun _ => #[]); letGo old.toList.reverse; Builtin.List.listExtendWith (.ref s.heap.objs.size) (.ref z) .none) _ _ _
  refine wpAny_bind ?_
  unfold Builtin.List.listItems
  refine wpAny_bind (wpAny_seqItems hS rfl (wpAny_pure ?_))
  show wpAny _ _ (updateSeq s.heap.objs.size (fun _ => #[]) >>= fun _ => letGo (#[] : Array Value).toList.reverse >>= fun _ => Builtin.List.listExtendWith (.ref s.heap.objs.size) (.ref z) .none) _ _ _
  refine wpAny_bind (wpAny_updateSeq hS rfl ?_)
  have hS2 := Heap.get?_update_self (Obj.mapSeq (fun _ => (#[] : Array Value))) hS rfl
  refine wpAny_bind (wpAny_letGo ?_)
  generalize eg : (s.heap.push { cls := .type "list", data := .seq #[] }).update s.heap.objs.size (Obj.mapSeq (fun _ => (#[] : Array Value))) = g2 at hS2 ⊢
  have kg : ∀ b o, b ≠ s.heap.objs.size → s.heap.get? b = some o → g2.get? b = some o := fun b o hb e => by
    rw [← eg]
    exact (Heap.get?_update_other _ _ (Ne.symm hb)).trans (Heap.get?_push_of_some _ e)
  have st0 : ZSt s.heap z TI TO i1 i2 a b s.heap.objs.size us.toArray ws.toArray 0 := ⟨.inl ⟨rfl, hi, hO⟩, hI, t1, t2, q1, q2⟩
  have st1 : ZSt g2 z TI TO i1 i2 a b s.heap.objs.size us.toArray ws.toArray 0 := st0.move lt kg
  have hz1 : IsZip g2 z TI TO .none := by
    rcases st1.zip with ⟨_, r, _⟩ | ⟨T, _, _, q, _, r⟩
    · exact r
    · exact kg _ _ (Nat.ne_of_lt lt.1) hi
  unfold Builtin.List.listExtendWith
  have tyz : ∀ {s2 : Shared}, IsZip s2.heap z TI TO .none → s2.TypeIs (.ref z) "zip" := fun h => ⟨_, h, rfl⟩
  refine wpAny_bind (wpAny_typeOf (T := "zip") (tyz (s2 := { s with heap := g2 }) hz1) ?_)
  have b1 : Builtin.List.listSameRef (.ref s.heap.objs.size) (.ref z) = false := by simp [Builtin.List.listSameRef, Nat.ne_of_gt lt.1]
  have b2 : (Value.type "zip" == Value.type "list") = false := by decide
  have b3 : (Value.type "zip" == Value.type "tuple") = false := by decide
  simp only [b1, b2, b3, Bool.or_false, Bool.false_eq_true, if_false]
  refine wpAny_bind (wpAny_pyIter_zip (s := { s with heap := g2 }) hz1 ?_)
  refine wpAny_bind (wpAny_holding ?_)
  unfold Builtin.List.listLengthHint
  refine wpAny_bind (wpAny_specialOf (tyz (s2 := { s with heap := g2 }) hz1) zip_no_len ?_)
  show wpAny _ _ (specialOf (Value.ref z) (Str.ofString "__length_hint__") >>= _) _ _ _
  refine wpAny_bind (wpAny_specialOf (tyz (s2 := { s with heap := g2 }) hz1) zip_no_hint ?_)
  refine wpAny_pure ?_
  show wpAny _ _ (rule "list.extend.makes-room" >>= fun _ => Builtin.List.listTouch (.ref s.heap.objs.size) >>= fun _ => again (.builtin "list.extend.loop" ⟨[.ref s.heap.objs.size, .ref z, .none], []⟩)) _ _ _
  refine wpAny_bind (wpAny_rule ?_)
  refine wpAny_bind ?_
  show wpAny _ _ (updateSeq s.heap.objs.size (·.push .none) >>= fun _ => updateSeq s.heap.objs.size (·.pop)) _ _ _
  refine wpAny_bind (wpAny_updateSeq hS2 rfl ?_)
  have hS3 := Heap.get?_update_self (Obj.mapSeq (·.push Value.none)) hS2 rfl
  refine wpAny_updateSeq (hz := by seq_fits) hS3 rfl ?_
  have hS4 := Heap.get?_update_self (Obj.mapSeq (·.pop)) hS3 rfl
  have k4 : ∀ b o, b ≠ s.heap.objs.size → g2.get? b = some o → ((g2.update s.heap.objs.size (Obj.mapSeq (·.push Value.none))).update s.heap.objs.size (Obj.mapSeq (·.pop))).get? b = some o := fun b o hb e =>
    (Heap.get?_update_other _ _ (Ne.symm hb)).trans ((Heap.get?_update_other _ _ (Ne.symm hb)).trans e)
  refine wpAny_pure ⟨plainId_quiet PySem.F.plain_extend_loop _, ?_⟩
  refine zl_loop (A := X.A.in1) (n := xs.length) (s := s) (xs := us.toArray) (ys := ws.toArray) hh D lt hz h0 (by simp; omega) (by simp; omega) s.heap (fun h tk acc c ts kh hS' hl' zp ha => ?_) xs.length 0 _ _ _ #[] [] (Nat.sub_zero _) (Nat.zero_le _) (st1.move lt k4) (fun b o b1 _ _ _ _ e => k4 b o b1 (kg b o b1 e)) hS4 rfl ⟨List.Pairwise.nil, (fun t ht => nomatch ht), (fun j t ht => by simp at ht)⟩ rfl
  obtain ⟨H', g1, g2, g3, g4, g5, g6, g7, J⟩ := zips_laid (tk := tk) I0 hz hl r1 r2 (fun b o e => by
    obtain ⟨n1, n2, n3, n4⟩ := nz b o e
    exact kh b o (Nat.ne_of_lt (Heap.lt_size (ks b o e))) n1 n2 n3 n4 (ks b o e)) le hS' hl' zp ha
  refine ⟨rfl, .ref s.heap.objs.size, H', ?_, rfl, go H' _ ts g1 g2 g3 g4 g5 hl' g6 g7⟩
  rw [es]
  exact J
/-- list(zip(t, u)) -/
theorem pe_listZip (hc : X.calm = true) (ha : PA X [e, e2] ta) (hg : Gl X "list") (hm : X.mg "list" = none) (hg2 : Gl X "zip") (hm2 : X.mg "zip" = none) (hv : bootBuiltins "list" = some (.type "list") := by decide +kernel)
    (hs : starEach [.Call (.Name "zip" p2) [e, e2] [] cpos] X.env = (false, eval (.Call (.Name "zip" p2) [e, e2] [] cpos) X.env) :: starEach [] X.env := by rfl) (hs2 : starEach [e, e2] X.env = (false, eval e X.env) :: starEach [e2] X.env := by rfl) (hpl : (backTo cpos (starEach [e2] X.env)).any (·.1) = false := by rfl) :
    PE X (.Call (.Name "list" p) [.Call (.Name "zip" p2) [e, e2] [] cpos] [] pos) (tListZip X.K ta) := by
  refine ⟨fun pins s σ H Q I hq => ?_⟩
  refine wpAny_Call_Name_kw (ld_blt I hg hm hv ?_)
  refine PyProof.Rows.callWith_type1 ?_ hs rfl
  rw [hs]
  show wpAny _ _ (spliced ((false, eval (.Call (.Name "zip" p2) [e, e2] [] cpos) X.env) :: backTo pos (starEach [] X.env))) _ _ s
  refine Calls.spliced_cons ?_
  refine Call_ (ld_blt I hg2 hm2 PyProof.Rows.boot_zip (PyProof.Rows.callWith_type1 (thn (ha.run cpos pins s σ H _ I hq) fun us s1 ⟨vs, H1, I1, rr, q1⟩ => ?_) hs2 hpl))
  obtain ⟨a, b, xs, ys, rfl, qa, qb, hl, h0, go⟩ := q1
  obtain ⟨u1, u2, rfl, e1, e2⟩ := vals2 rr
  cases e1
  cases e2
  obtain ⟨its, rv, d1, _⟩ := I1.tuple qa
  obtain ⟨its2, rv2, d2, few⟩ := I1.tuple qb
  obtain ⟨o1, ho1, _⟩ := id d1
  obtain ⟨o2, ho2, _⟩ := id d2
  refine RZ.call_zipT (show s1.heap.IsTuple a its.toArray from d1) (show s1.heap.IsTuple b its2.toArray from d2) fun h' hz hI hO t1 t2 hsz hk => ?_
  refine Calls.spliced_nil ?_
  have big : ∀ {b : Addr} {o : Obj}, s1.heap.get? b = some o → ∀ k, b ≠ s1.heap.objs.size + k := fun e k q => absurd (Heap.lt_size e) (Nat.not_lt.mpr (by rw [q]; exact Nat.le_add_right _ _))
  exact call_list_zip (s := { s1 with heap := h' }) hc (PySem.W.ktu_apart s1.heap.objs.size a b (Heap.lt_size ho1) (Heap.lt_size ho2)) rv rv2 hl h0 (by omega) hz hI hO t1 t2
    (by obtain ⟨o, ho, r⟩ := id d1; exact ⟨o, hk _ _ ho, r⟩) (by obtain ⟨o, ho, r⟩ := id d2; exact ⟨o, hk _ _ ho, r⟩) I1 hk rfl (by rw [hsz]; exact Nat.le_add_right _ _) (fun b o e => ⟨big e 4, big e 3, big e 0, big e 1⟩) go
end
end Lk

set_option Elab.async false
set_option linter.all false
set_option maxRecDepth 100000
set_option maxHeartbeats 4000000
/-! kernels -/
namespace Lk
open PySem L2
abbrev s_kernel_of : Stmt := top 22
abbrev N_kernel_of : List Str := ["labels", "first", "index", "label"]
abbrev P_kernel_of : List Str := ["labels"]
theorem sc_kernel_of : FnScope N_kernel_of P_kernel_of (defScope s_kernel_of) := ⟨rfl, rfl, rfl, by decide +kernel, rfl, by decide +kernel, by decide +kernel⟩
theorem walk_enumT {K : PySem.W.Frag} {a : Addr} {xs : List V} : Walk (ItE K a) xs.length (fun H => SqT K H a xs) (YPair (fun i => some (.int (i : Nat))) (fun i => xs[i]?)) := by
  refine ⟨fun i _ hi q => ⟨xs, xs[i], q, by simp [hi]⟩, fun _ q => ⟨xs, q, Nat.le_refl _⟩, fun i H v H' _ q y => ?_⟩
  obtain ⟨T, x, h1, h2, h3, h4⟩ := y
  exact ⟨T, .int (i : Nat), x, h1, h2, h3, rfl, h4 xs q⟩
/-- for each label the first place at which it stands -/
def kerL (xs : List Int) : List Int := xs.map fun x => ((xs.idxOf x : Nat) : Int)
theorem idx_at {x : Int} : ∀ {xs : List Int} {i : Nat}, xs[i]? = some x → x ∉ xs.take i → xs.idxOf x = i
  | [], _, h, _ => by cases h
  | y :: ys, 0, h, _ => by
    obtain rfl := Option.some.inj h
    exact List.idxOf_cons_self
  | y :: ys, i + 1, h, hn => by
    rw [List.take_succ_cons, List.mem_cons, not_or] at hn
    have e1 : (y == x) = false := by simpa using fun e : y = x => hn.1 e.symm
    have e2 := idx_at (xs := ys) (i := i) (x := x) (by simpa using h) hn.2
    rw [List.idxOf_cons, e1, e2]
    rfl
theorem kerL_at {xs : List Int} {i : Nat} {x : Int} (h : xs[i]? = some x) : (kerL xs)[i]? = some ((xs.idxOf x : Nat) : Int) := by
  unfold kerL
  rw [List.getElem?_map, h]
  rfl
theorem wipe2 {σ : St} {i j : Nat} (x y : V) : wipe (((wipe σ [i, j]).set i (some x)).set j (some y)) [i, j] = wipe σ [i, j] := by
  show ((((((σ.set j none).set i none).set i (some x)).set j (some y)).set j none).set i none) = (σ.set j none).set i none
  simp only [List.set_set]
  by_cases h : i = j
  · subst h
    simp only [List.set_set]
  · rw [List.set_comm (i := j) (j := i) _ _ (fun e => h e.symm)]
    simp only [List.set_set]
    rw [List.set_comm (i := i) (j := j) _ _ h]
    simp only [List.set_set]
/-- the second, or the first of each pair -/
theorem tv2 {σ : St} {i j : Nat} {x y : Int} {H : Hp} {Q : VK} (hj : j < σ.length) (k : Q (.int y) H) : tVar j (((wipe σ [i, j]).set i (some (.int x))).set j (some (.int y))) H Q := by
  refine ⟨.int y, ?_, k⟩
  rw [List.getElem?_set_self (by rw [List.length_set, wipe_length]; exact hj)]
theorem tv1 {σ : St} {i j : Nat} {x y : Int} {H : Hp} {Q : VK} (hij : j ≠ i) (hi : i < σ.length) (k : Q (.int x) H) : tVar i (((wipe σ [i, j]).set i (some (.int x))).set j (some (.int y))) H Q := by
  refine ⟨.int x, ?_, k⟩
  rw [List.getElem?_set_ne hij, List.getElem?_set_self (by rw [wipe_length]; exact hi)]
theorem putK_len {κ : Type} [DecidableEq κ] (kvs : List (κ × V)) (k : κ) (y : V) : (putK kvs k y).length ≤ kvs.length + 1 := by
  unfold putK
  by_cases h : (kvs.any fun kv => decide (kv.1 = k)) = true
  · rw [if_pos h, List.length_map]
    exact Nat.le_succ _
  · rw [if_neg h, List.length_append]
    exact Nat.le_refl _
theorem tYes_go {σ : St} {H : Hp} {F : Bool → Hp → Prop} (h : F true H) : tYes σ H F := h
def spKOf (Sq : Hp → Addr → List V → Prop) : Sp := fun vs H Q _ => ∃ (a : Addr) (xs : List Int), vs = [.ref a] ∧ Sq H a (xs.map V.int) ∧ xs.length ≤ 1000 ∧ ∀ H' q, Same H H' → H q = none → H' q = some (.tup ((kerL xs).map V.int)) → Q (.ref q) H'
section
variable {K : PySem.W.Frag} {J : It} {G : Hp → Prop} {σ : St} {H1 : Hp} {f D : Addr} {Qd : Hp → Prop}
theorem kof_lc {xs : List Int} (w : Walk J xs.length G (YPair (fun i => some (.int (i : Nat))) (fun i => (xs.map V.int)[i]?))) (hf : H1 f = none) (hD : upd H1 f (.dK []) D = none) (hz : xs.length ≤ 1000) (hG : ∀ H, Same H1 H → G H)
    (h1 : σ[1]? = some (some (.ref f))) (hl : 3 < σ.length) (hd : ∀ H', Same H1 H' → H' D = some (.lst ((kerL xs).map V.int)) → Qd H') :
    ∃ W : Nat → Nat → Hp → Prop, (∃ m, W 0 m (upd (upd H1 f (.dK [])) D (.lst []))) ∧ ∀ i m H, W i m H →
      (J.stop i H ∧ Qd H) ∨ (J.go i H ∧ ∃ Nx : Hp → Prop, (∀ H', Nx H' → ∃ m', m' < m ∧ W (i + 1) m' H') ∧ ∀ x H', J.yld i H x H' → gTup K 2 (gCons (gName 2) (gCons (gName 3) gNil)) x (wipe σ [2, 3]) H' fun σ2 H2 => wipe σ2 [2, 3] = wipe σ [2, 3] ∧ tYes σ2 H2 fun b H3 =>
        if b = true then tDSetd (tVar 1) (tVar 3) (tVar 2) σ2 H3 fun y H4 => ∃ acc, H4 D = some (.lst acc) ∧ acc.length < sizeLine ∧ Nx (upd H4 D (.lst (acc ++ [y]))) else Nx H3) := by
  have nDf : D ≠ f := fun e => by
    rw [e, upd_same] at hD
    cases hD
  have hD0 : H1 D = none := by
    rw [upd_ne nDf] at hD
    exact hD
  refine lc_it w (fun i H => Same H1 H ∧ (∃ kvs : List (Key × V), H f = some (.dK kvs) ∧ kvs.length ≤ i ∧ ∀ x : Int, valV kvs (.inl x) = if x ∈ xs.take i then some (.int ((xs.idxOf x : Nat) : Int)) else none) ∧ H D = some (.lst (((kerL xs).take i).map V.int)))
    ⟨(Same.new hf).trans (Same.new hD), ⟨[], by rw [upd_ne nDf.symm, upd_same], Nat.le_refl _, fun x => by simp [valV_nil]⟩, upd_same⟩ (fun i H _ p => hG H p.1) ?_ (fun H p => hd H p.1 (by
      have e := p.2.2
      rw [List.take_of_length_le (by unfold kerL; rw [List.length_map]; exact Nat.le_refl _)] at e
      exact e))
  rintro i v H H' hi ⟨p1, ⟨kvs, p2, p3, p4⟩, p5⟩ ⟨T, x, y, rfl, hT, rfl, ex, ey⟩
  obtain rfl := (Option.some.inj ex).symm
  obtain ⟨z, hz', rfl⟩ : ∃ z, xs[i]? = some z ∧ V.int z = y := by
    have ey : (xs.map V.int)[i]? = some y := ey
    rw [List.getElem?_map] at ey
    cases e : xs[i]? with
    | none => rw [e] at ey; cases ey
    | some z => rw [e] at ey; exact ⟨z, rfl, Option.some.inj ey⟩
  have nTf : f ≠ T := ne_of_none p2 hT
  have nTD : D ≠ T := ne_of_none p5 hT
  have q1 : Same H1 (upd H T (.tup [V.int (i : Nat), V.int z])) := p1.trans (Same.new hT)
  have q2 : upd H T (.tup [V.int (i : Nat), V.int z]) f = some (.dK kvs) := (upd_ne nTf).trans p2
  have q5 : upd H T (.tup [V.int (i : Nat), V.int z]) D = some (.lst (((kerL xs).take i).map V.int)) := (upd_ne nTD).trans p5
  have accl : (((kerL xs).take i).map V.int).length < sizeLine := by
    rw [List.length_map]
    exact Nat.lt_of_le_of_lt (Nat.le_trans (by rw [List.length_take]; exact Nat.min_le_left _ _) (Nat.le_trans (Nat.le_of_lt hi) hz)) (by decide)
  have kl : kvs.length < sizeLine := Nat.lt_of_le_of_lt (Nat.le_trans p3 (Nat.le_trans (Nat.le_of_lt hi) hz)) (by decide)
  have ek : ((kerL xs).take i).map V.int ++ [V.int ((xs.idxOf z : Nat) : Int)] = ((kerL xs).take (i + 1)).map V.int := by
    rw [take_next (kerL_at hz'), List.map_append]
    rfl
  refine ⟨T, _, rfl, SqT.of upd_same, rfl, _, _, rfl, _, _, rfl, rfl, wipe2 _ _, ?_⟩
  refine tYes_go ?_
  simp only [↓reduceIte]
  have g1 : (((wipe σ [2, 3]).set 2 (some (V.int (i : Nat)))).set 3 (some (V.int z)))[1]? = some (some (.ref f)) := by
    show (((((σ.set 3 none).set 2 none).set 2 _).set 3 _))[1]? = _
    rw [List.getElem?_set_ne (by decide), List.getElem?_set_ne (by decide), List.getElem?_set_ne (by decide), List.getElem?_set_ne (by decide)]
    exact h1
  have g2 : (((wipe σ [2, 3]).set 2 (some (V.int (i : Nat)))).set 3 (some (V.int z)))[2]? = some (some (.int (i : Nat))) := by
    rw [List.getElem?_set_ne (by decide), List.getElem?_set_self (by rw [wipe_length]; omega)]
  have g3 : (((wipe σ [2, 3]).set 2 (some (V.int (i : Nat)))).set 3 (some (V.int z)))[3]? = some (some (.int z)) := by
    rw [List.getElem?_set_self (by rw [List.length_set, wipe_length]; exact hl)]
  refine ⟨_, g1, f, rfl, .inl ⟨kvs, .inl q2⟩, _, g3, _, g2, kvs, .inl z, q2, rfl, kl, fun v hv => ?_, fun hv => ?_⟩
  · have e := p4 z
    rw [hv] at e
    by_cases hm : z ∈ xs.take i
    · rw [if_pos hm] at e
      obtain rfl := Option.some.inj e
      refine ⟨_, q5, accl, ((KP.same (S := fun _ => False) q1).mut hD0).toSame, ⟨kvs, (upd_ne nDf.symm).trans q2, Nat.le_succ_of_le p3, fun x => ?_⟩, by rw [upd_same, ek]⟩
      rw [p4 x, take_next hz']
      by_cases hx : x ∈ xs.take i
      · rw [if_pos hx, if_pos (List.mem_append_left _ hx)]
      · rw [if_neg hx, if_neg (fun q => (List.mem_append.mp q).elim hx fun q => hx (by rw [List.mem_singleton.mp q]; exact hm))]
    · rw [if_neg hm] at e
      cases e
  · have e := p4 z
    rw [hv] at e
    by_cases hm : z ∈ xs.take i
    · rw [if_pos hm] at e
      cases e
    · have ei := idx_at hz' hm
      refine ⟨_, (upd_ne nDf).trans q5, accl, (((KP.same (S := fun _ => False) q1).mut hf).mut hD0).toSame, ⟨putK kvs (.inl z) (.int (i : Nat)), (upd_ne nDf.symm).trans upd_same, Nat.le_trans (putK_len ..) (Nat.succ_le_succ p3), fun x => ?_⟩, by rw [upd_same, ← ek, ei]⟩
      rw [valV_put, take_next hz']
      by_cases hx : x = z
      · rw [if_pos (by rw [hx]), if_pos (List.mem_append_right _ (by rw [hx]; exact List.mem_cons_self)), hx, ei]
      · rw [if_neg (fun q => hx (Sum.inl.inj q)), p4 x]
        by_cases hx2 : x ∈ xs.take i
        · rw [if_pos hx2, if_pos (List.mem_append_left _ hx2)]
        · rw [if_neg hx2, if_neg (fun q => (List.mem_append.mp q).elim hx2 fun q => hx (List.mem_singleton.mp q))]
end
section
variable {P : Program} {w : World} {K : PySem.W.Frag} {mg : Str → Option Value} {base : Heap}
theorem ok_kof {f : Addr} {fd : FuncData} (A0 : Df K mg "kernel_of" s_kernel_of f fd P_kernel_of) (T : Txt mg) : FnOk P w K mg base CX0 1 f fd P_kernel_of (spKOf (SqT K)) := by
  refine A0.F.ok sc_kernel_of (fun vs H Q E h => ?_) (fun cdv A outer s H vs Q E hr h => ?_)
  · obtain ⟨a, xs, rfl, _⟩ := h
    rfl
  · obtain ⟨a, xs, rfl, ha, hz, k⟩ := h
    refine ⟨_, (pss_cons (ps_set (i := 1) sc_kernel_of.nd rfl (Or.inr rfl) pe_dnewK)
      (pss_one (ps_ret (pe_tupleOf (by rfl) T.tuple (pe_lc (own := [("index", 2), ("label", 3)]) (g := gTup K 2 (gCons (gName 2) (gCons (gName 3) gNil))) (tt := tYes) (te := tDSetd (tVar 1) (tVar 3) (tVar 2)) rfl sc_kernel_of.nd (pi_enumT (by rfl) T.enumerate (pa_cons (pv 0) pa_nil)) (blkOk_by (N := N_kernel_of) (sc := defScope s_kernel_of) (by decide +kernel)) (fun _ _ _ _ _ => (pg_tup rfl (pgs_cons (pg_name (i := 2) sc_kernel_of.nd rfl (Or.inl rfl)) (pgs_cons (pg_name (i := 3) sc_kernel_of.nd rfl (Or.inl rfl)) pgs_nil)))) (fun _ _ _ _ _ => pts_nil) (fun _ _ _ _ _ => (pe_dsetd (pv 1) (pv 3) (pv 2) ⟨rfl, rfl, rfl, rfl⟩))))))), ?_⟩
    refine fun f0 hf0 => ?_
    have ha' := sameT (Same.new (o := HO.dK []) hf0) ha
    have wk := walk_enumT (K := K) (a := a) (xs := xs.map V.int)
    rw [List.length_map] at wk
    refine ⟨_, rfl, a, _, rfl, ha', fun D hD => ?_⟩
    refine kof_lc (H1 := H) wk hf0 hD hz (fun H' S => sameT S ha) rfl (by show 3 < 4; decide) (fun H' S e => .inl ⟨D, _, rfl, SqL.of e, fun p hp => ?_⟩)
    exact k _ p (S.trans (Same.new hp)) (KP.free (S := fun _ => False) (KP.same S) (fun x => x.elim) hp) upd_same
theorem ok_kofL {f : Addr} {fd : FuncData} (A0 : Df K mg "kernel_of" s_kernel_of f fd P_kernel_of) (T : Txt mg) : FnOk P w K mg base CX0 1 f fd P_kernel_of (spKOf (SqL K)) := by
  refine A0.F.ok sc_kernel_of (fun vs H Q E h => ?_) (fun cdv A outer s H vs Q E hr h => ?_)
  · obtain ⟨a, xs, rfl, _⟩ := h
    rfl
  · obtain ⟨a, xs, rfl, ha, hz, k⟩ := h
    refine ⟨_, (pss_cons (ps_set (i := 1) sc_kernel_of.nd rfl (Or.inr rfl) pe_dnewK)
      (pss_one (ps_ret (pe_tupleOf (by rfl) T.tuple (pe_lc (own := [("index", 2), ("label", 3)]) (g := gTup K 2 (gCons (gName 2) (gCons (gName 3) gNil))) (tt := tYes) (te := tDSetd (tVar 1) (tVar 3) (tVar 2)) rfl sc_kernel_of.nd (pi_enum (by rfl) T.enumerate (pa_cons (pv 0) pa_nil)) (blkOk_by (N := N_kernel_of) (sc := defScope s_kernel_of) (by decide +kernel)) (fun _ _ _ _ _ => (pg_tup rfl (pgs_cons (pg_name (i := 2) sc_kernel_of.nd rfl (Or.inl rfl)) (pgs_cons (pg_name (i := 3) sc_kernel_of.nd rfl (Or.inl rfl)) pgs_nil)))) (fun _ _ _ _ _ => pts_nil) (fun _ _ _ _ _ => (pe_dsetd (pv 1) (pv 3) (pv 2) ⟨rfl, rfl, rfl, rfl⟩))))))), ?_⟩
    refine fun f0 hf0 => ?_
    have ha' := Same.seq (Same.new (o := HO.dK []) hf0) ha
    have wk := walk_enum (K := K) (a := a) (xs := xs.map V.int)
    rw [List.length_map] at wk
    refine ⟨_, rfl, a, _, rfl, ha', fun D hD => ?_⟩
    refine kof_lc (H1 := H) wk hf0 hD hz (fun H' S => Same.seq S ha) rfl (by show 3 < 4; decide) (fun H' S e => .inl ⟨D, _, rfl, SqL.of e, fun p hp => ?_⟩)
    exact k _ p (S.trans (Same.new hp)) (KP.free (S := fun _ => False) (KP.same S) (fun x => x.elim) hp) upd_same
end
end Lk

set_option Elab.async false
set_option linter.all false
set_option maxRecDepth 100000
set_option maxHeartbeats 4000000
/-! d.setdefault(k, v) where keys are tuples -/
namespace Lk
open PySem PySem.Spec PyProof.Rows L2
def tDSetT (td ty tx : TE) : TE := fun σ H Q => td σ H fun x H1 => ∃ a, x = .ref a ∧ IsD H1 a ∧ ty σ H1 fun y H2 => tx σ H2 fun z H3 => ∃ (kvs : List (List Key × V)) (k : List Key) (b : Addr), H3 a = some (.dT kvs) ∧ y = .ref b ∧ H3 b = some (.tup (k.map kV)) ∧ kvs.length < sizeLine ∧
  (∀ v, valV kvs k = some v → Q v H3) ∧ (valV kvs k = none → Q z (upd H3 a (.dT (putK kvs k z))))
section
variable {X : Cx} {o e f : Expr} {td ty tx : TE} {apos cpos : Pos}
theorem setd_T {pins : List (Addr × Obj)} {σ : L2.St} {H : Hp} {s : Shared} {a b : Addr} {r : Value} {d : V} {k : List Key} {A : Around} {E : Value → Shared → Prop} {kvs : List (List Key × V)} {Q : Value → Shared → Prop} (hu : A.units + 1 < cLine) (I : Inv X pins σ H s) (ha : H a = some (.dT kvs)) (hb : H b = some (.tup (k.map kV))) (rd : RelV d r) (hl : kvs.length < sizeLine)
    (h1 : ∀ v, valV kvs k = some v → ∀ (w' : Value) (s' : Shared), Inv X pins σ H s' → RelV v w' → Q w' s') (h2 : valV kvs k = none → ∀ (w' : Value) (s' : Shared), Inv X pins σ (upd H a (.dT (putK kvs k d))) s' → RelV d w' → Q w' s') :
    wpAny (model X.prog X.w) A (call (.builtin "dict.setdefault") [.ref a, .ref b, r]) Q E s := by
  obtain ⟨z, hd, xs, rel, dd⟩ := dt_of I.hok ha
  have hz : xs.length ≤ sizeLine := by
    rw [← Paired.length rel]
    exact z
  refine call_setdefault_heap (hsz := hz) (tupleKind_room_in1 hu) (key_of I.hok hb) hd dd (fun p hp => ?_) fun hn h' dd' hs => ?_
  · have q := rel.val k
    rw [hp] at q
    cases q0 : valV kvs k with
    | none =>
      rw [q0] at q
      exact (show False from q).elim
    | some v0 =>
      rw [q0] at q
      exact h1 v0 q0 _ _ (I.tok _) q
  · have q := rel.val k
    rw [hn] at q
    cases q0 : valV kvs k with
    | some v0 =>
      rw [q0] at q
      exact (show False from q).elim
    | none =>
      have hl2 : (putK kvs k d).length ≤ sizeLine := by
        have := length_putK kvs k d
        omega
      obtain ⟨qo, es, ep, hq, g2, g3, g4, _, g5⟩ := dd'
      refine h2 q0 _ _ (d_write (t' := _) I (by rw [ha]; exact True.intro) hs ⟨qo, hq⟩ ⟨hl2, hd, _, (rel.put k hb rd).keeps fun c ys ec => ?_, qo, es, ep, hq, g2, g3, g4, g5⟩) rd
      rw [upd_ne (ne_of ec ha (fun z => nomatch z))]
      exact ec
theorem pe_dsetT (hu : X.A.units + 1 < cLine) (ho : PE X o td) (he : PE X e ty) (hf : PE X f tx) (m : M2 X o "setdefault" apos e f cpos) : PE X (.Call (.Attribute o "setdefault" apos) [e, f] [] cpos) (tDSetT td ty tx) := by
  refine ⟨fun pins s σ H Q I h => ?_⟩
  refine wpAny_Call_method m.base m.few m.line PySem.F.plainAttrs_dict PySem.F.slot_dict_setdefault PySem.F.type_dict_setdefault (thn (ho.run pins s σ H _ I h) fun u s1 ⟨x, H1, I1, rx, a, ex, d, q1⟩ => ?_)
  subst ex
  cases rx
  obtain ⟨t1, t2, _⟩ := isD_at I1 d
  refine ⟨t1, t2, ?_⟩
  rw [m.trees]
  refine Calls.callWith_builtin rfl (Calls.evalArgs_plain (Calls.spliced_cons (thn (he.run pins s1 σ H1 _ I1 q1) fun iv s2 ⟨y, H2, I2, ry, q2⟩ => Calls.spliced_cons (thn (hf.run pins s2 σ H2 _ I2 q2) fun fv s3 ⟨z, H3, I3, rz, kvs, k, b, ea, ey, eb, hl, q3, q4⟩ => Calls.spliced_nil ?_))))
  subst ey
  cases ry
  exact setd_T hu I3 ea eb rz hl (fun v hv w' s4 I4 rw' => ⟨v, _, I4, rw', q3 v hv⟩) fun hn w' s4 I4 rw' => ⟨z, _, I4, rw', q4 hn⟩
end
end Lk

set_option Elab.async false
set_option linter.all false
namespace Lk
/-! ### classes of states, faces -/
/-- for each item the first place at which it stands -/
def kerG {α : Type} [BEq α] (xs : List α) : List Int := xs.map fun x => ((xs.idxOf x : Nat) : Int)
def sm {α : Type} (L : List α) (i j : Nat) : Prop := L[i]? = L[j]?
theorem idxG {α : Type} [BEq α] [LawfulBEq α] {x : α} : ∀ {xs : List α}, x ∈ xs → xs[xs.idxOf x]? = some x ∧ ∀ m, m < xs.idxOf x → xs[m]? ≠ some x
  | [], h => by cases h
  | y :: ys, h => by
    by_cases e : y = x
    · subst e
      rw [List.idxOf_cons_self]
      exact ⟨rfl, fun m hm => absurd hm (Nat.not_lt_zero m)⟩
    · have hm : x ∈ ys := (List.mem_cons.mp h).resolve_left fun q => e q.symm
      obtain ⟨h1, h2⟩ := idxG hm
      have e1 : (y == x) = false := by simpa using e
      have e2 : (y :: ys).idxOf x = ys.idxOf x + 1 := by
        rw [List.idxOf_cons, e1]
        rfl
      rw [e2]
      refine ⟨h1, fun m hm2 => ?_⟩
      cases m with
      | zero => exact fun q => e (Option.some.inj q)
      | succ m => exact h2 m (by omega)
section
variable {α β : Type} [BEq α] [LawfulBEq α] [BEq β] [LawfulBEq β]
theorem ker_len (xs : List α) : (kerG xs).length = xs.length := List.length_map ..
theorem ker_get {xs : List α} {i : Nat} {x : α} (h : xs[i]? = some x) : (kerG xs)[i]? = some ((xs.idxOf x : Nat) : Int) := by
  unfold kerG
  rw [List.getElem?_map, h]
  rfl
theorem idx_le {xs : List α} {i : Nat} {x : α} (h : xs[i]? = some x) : xs.idxOf x ≤ i := by
  obtain ⟨_, h2⟩ := idxG (List.mem_of_getElem? h)
  exact Nat.le_of_not_lt fun q => h2 i q h
theorem sm_ker {xs : List α} {i j : Nat} (hi : i < xs.length) (hj : j < xs.length) : sm (kerG xs) i j ↔ sm xs i j := by
  obtain ⟨x, hx⟩ : ∃ x, xs[i]? = some x := ⟨_, List.getElem?_eq_getElem hi⟩
  obtain ⟨y, hy⟩ : ∃ y, xs[j]? = some y := ⟨_, List.getElem?_eq_getElem hj⟩
  unfold sm
  rw [ker_get hx, ker_get hy, hx, hy]
  constructor
  · intro h
    have e : xs.idxOf x = xs.idxOf y := by
      have := Option.some.inj h
      omega
    have h1 := (idxG (List.mem_of_getElem? hx)).1
    rw [e, (idxG (List.mem_of_getElem? hy)).1] at h1
    exact h1.symm
  · intro h
    rw [Option.some.inj h]
theorem ker_ext {xs : List α} {ys : List β} (hl : xs.length = ys.length) (h : ∀ i j, i < xs.length → j < xs.length → (sm xs i j ↔ sm ys i j)) : kerG xs = kerG ys := by
  apply List.ext_getElem?
  intro i
  by_cases hi : i < xs.length
  · obtain ⟨x, hx⟩ : ∃ x, xs[i]? = some x := ⟨_, List.getElem?_eq_getElem hi⟩
    obtain ⟨y, hy⟩ : ∃ y, ys[i]? = some y := ⟨_, List.getElem?_eq_getElem (by omega)⟩
    rw [ker_get hx, ker_get hy]
    have x1 := (idxG (List.mem_of_getElem? hx)).1
    have y1 := (idxG (List.mem_of_getElem? hy)).1
    have xl := idx_le hx
    have yl := idx_le hy
    have a : xs.idxOf x ≤ ys.idxOf y := by
      have e : sm ys (ys.idxOf y) i := by
        unfold sm
        rw [y1, hy]
      have e2 := (h _ _ (by omega) hi).mpr e
      unfold sm at e2
      rw [hx] at e2
      exact idx_le e2
    have b : ys.idxOf y ≤ xs.idxOf x := by
      have e : sm xs (xs.idxOf x) i := by
        unfold sm
        rw [x1, hx]
      have e2 := (h _ _ (by omega) hi).mp e
      unfold sm at e2
      rw [hy] at e2
      exact idx_le e2
    rw [Nat.le_antisymm a b]
  · rw [List.getElem?_eq_none (by rw [ker_len]; omega), List.getElem?_eq_none (by rw [ker_len]; omega)]
theorem ker_ker (xs : List α) : kerG (kerG xs) = kerG xs := ker_ext (ker_len xs) fun i j hi hj => sm_ker (by rw [← ker_len xs]; exact hi) (by rw [← ker_len xs]; exact hj)
end
theorem canon_at {L : List Int} (c : kerG L = L) {i : Nat} {z : Int} (h : L[i]? = some z) : 0 ≤ z ∧ z.toNat ≤ i ∧ L[z.toNat]? = some z := by
  have e := ker_get h
  rw [c, h] at e
  have e2 : z = ((L.idxOf z : Nat) : Int) := Option.some.inj e
  have l := idx_le h
  have g := (idxG (List.mem_of_getElem? h)).1
  have e3 : z.toNat = L.idxOf z := by omega
  rw [e3]
  exact ⟨by omega, l, g⟩
/-- commands lead states of one class into one class -/
def Cong (rs : List (List Int)) (A : Nat) (L : List Int) : Prop := ∀ i j, i < rs.length → j < rs.length → sm L i j → ∀ x, x < A → sm L (stp rs (i : Int) (x : Int)).toNat (stp rs (j : Int) (x : Int)).toNat
def Holds (W : List (Int × Int)) (E : List Int) : Prop := ∀ p ∈ W, sm E p.1.toNat p.2.toNat
def Le (n : Nat) (L E : List Int) : Prop := ∀ i j, i < n → j < n → sm L i j → sm E i j
theorem getD_sm {L : List Int} {i j : Nat} (hi : i < L.length) (hj : j < L.length) : L.getD i 0 = L.getD j 0 ↔ sm L i j := by
  unfold sm
  rw [List.getElem?_eq_getElem hi, List.getElem?_eq_getElem hj, getD_of (List.getElem?_eq_getElem hi), getD_of (List.getElem?_eq_getElem hj)]
  exact ⟨fun e => congrArg some e, Option.some.inj⟩
structure LeastFace (rs : List (List Int)) (A : Nat) (ps : List (Int × Int)) (R : List Int) : Prop where
  len : R.length = rs.length
  canon : kerG R = R
  cong : Cong rs A R
  holds : Holds ps R
  least : ∀ E : List Int, E.length = rs.length → Cong rs A E → Holds ps E → Le rs.length R E
/-- labels so far, and pairs that wait -/
structure Cl (rs : List (List Int)) (A : Nat) (ps : List (Int × Int)) (L : List Int) (W : List (Int × Int)) : Prop where
  len : L.length = rs.length
  rng : ∀ z ∈ L, 0 ≤ z ∧ z < (rs.length : Int)
  wr : ∀ p ∈ W, (0 ≤ p.1 ∧ p.1 < (rs.length : Int)) ∧ (0 ≤ p.2 ∧ p.2 < (rs.length : Int))
  below : ∀ E : List Int, E.length = rs.length → Cong rs A E → Holds ps E → Le rs.length L E ∧ Holds W E
  up : ∀ E : List Int, E.length = rs.length → Le rs.length L E → Holds W E → (∀ i j, i < rs.length → j < rs.length → sm L i j → ∀ x, x < A → sm E (stp rs (i : Int) (x : Int)).toNat (stp rs (j : Int) (x : Int)).toNat) ∧ Holds ps E
def rngI (n : Nat) : List Int := (List.range n).map fun (i : Nat) => (i : Int)
theorem rngI_get {n i : Nat} (h : i < n) : (rngI n)[i]? = some (i : Int) := by
  unfold rngI
  rw [List.getElem?_map, List.getElem?_range h]
  rfl
theorem Cl.start {rs : List (List Int)} {A : Nat} {ps : List (Int × Int)} (wr : ∀ p ∈ ps, (0 ≤ p.1 ∧ p.1 < (rs.length : Int)) ∧ (0 ≤ p.2 ∧ p.2 < (rs.length : Int))) : Cl rs A ps (rngI rs.length) ps := by
  have one : ∀ i j, i < rs.length → j < rs.length → sm (rngI rs.length) i j → i = j := fun i j hi hj h => by
    unfold sm at h
    rw [rngI_get hi, rngI_get hj] at h
    have := Option.some.inj h
    omega
  refine ⟨by unfold rngI; simp, fun z hz => ?_, wr, fun E hl hc hp => ⟨fun i j hi hj h => ?_, hp⟩, fun E hl hL hp => ⟨fun i j hi hj h x hx => ?_, hp⟩⟩
  · unfold rngI at hz
    obtain ⟨i, hi, rfl⟩ := List.mem_map.mp hz
    have := List.mem_range.mp hi
    omega
  · rw [one i j hi hj h]
    rfl
  · rw [one i j hi hj h]
    rfl
theorem Cl.skip {rs : List (List Int)} {A : Nat} {ps W : List (Int × Int)} {L : List Int} {p : Int × Int} (c : Cl rs A ps L (W ++ [p])) (h : sm L p.1.toNat p.2.toNat) : Cl rs A ps L W := by
  obtain ⟨w1, w2⟩ := c.wr p (List.mem_append_right _ List.mem_cons_self)
  refine ⟨c.len, c.rng, fun q hq => c.wr q (List.mem_append_left _ hq), fun E hl hc hp => ?_, fun E hl hL hW => c.up E hl hL fun q hq => ?_⟩
  · obtain ⟨h1, h2⟩ := c.below E hl hc hp
    exact ⟨h1, fun q hq => h2 q (List.mem_append_left _ hq)⟩
  · rcases List.mem_append.mp hq with q1 | q1
    · exact hW q q1
    · rw [List.mem_singleton.mp q1]
      exact hL _ _ (by omega) (by omega) h
def mrg (L : List Int) (a b : Int) : List Int := L.map fun l => if l = b then a else l
theorem sm_mrg {L : List Int} {s t : Nat} {a b : Int} (hs : L[s]? = some a) (ht : L[t]? = some b) {i j : Nat} (hi : i < L.length) (hj : j < L.length) (h : sm (mrg L a b) i j) : sm L i j ∨ (sm L i s ∧ sm L t j) ∨ (sm L i t ∧ sm L s j) := by
  obtain ⟨x, hx⟩ : ∃ x, L[i]? = some x := ⟨_, List.getElem?_eq_getElem hi⟩
  obtain ⟨y, hy⟩ : ∃ y, L[j]? = some y := ⟨_, List.getElem?_eq_getElem hj⟩
  unfold sm mrg at h
  rw [List.getElem?_map, List.getElem?_map, hx, hy] at h
  have e : (if x = b then a else x) = (if y = b then a else y) := Option.some.inj h
  unfold sm
  rw [hx, hy, hs, ht]
  by_cases e1 : x = b <;> by_cases e2 : y = b
  · exact .inl (by rw [e1, e2])
  · rw [if_pos e1, if_neg e2] at e
    exact .inr (.inr ⟨by rw [e1], by rw [e]⟩)
  · rw [if_neg e1, if_pos e2] at e
    exact .inr (.inl ⟨by rw [e], by rw [e2]⟩)
  · rw [if_neg e1, if_neg e2] at e
    exact .inl (by rw [e])
theorem mrg_sm {L : List Int} {s t : Nat} {a b : Int} (hs : L[s]? = some a) (ht : L[t]? = some b) : sm (mrg L a b) s t ∧ ∀ i j, sm L i j → sm (mrg L a b) i j := by
  unfold sm mrg
  constructor
  · rw [List.getElem?_map, List.getElem?_map, hs, ht]
    show some (if a = b then a else a) = some (if b = b then a else b)
    by_cases e : a = b
    · rw [if_pos e, if_pos rfl]
    · rw [if_neg e, if_pos rfl]
  · intro i j h
    rw [List.getElem?_map, List.getElem?_map, h]
def zipS (rs : List (List Int)) (s t : Int) : List (Int × Int) := List.zip (rs.getD s.toNat []) (rs.getD t.toNat [])
theorem zipS_mem {rs : List (List Int)} {A : Nat} (R : Rs A rs) {s t : Int} (s0 : 0 ≤ s) (s1 : s < rs.length) (t0 : 0 ≤ t) (t1 : t < rs.length) {p : Int × Int} : p ∈ zipS rs s t ↔ ∃ x, x < A ∧ p = (stp rs s (x : Int), stp rs t (x : Int)) := by
  have g1 := item_of s0 s1 ([] : List Int)
  have g2 := item_of t0 t1 ([] : List Int)
  have l1 := (R.row _ (mem_of_get g1)).1
  have l2 := (R.row _ (mem_of_get g2)).1
  unfold zipS stp
  constructor
  · intro h
    obtain ⟨x, hx⟩ := List.mem_iff_getElem?.mp h
    obtain ⟨u, v, h1, h2, h3⟩ := List.getElem?_zip_eq_some.mp hx |> fun q => (⟨p.1, p.2, q.1, q.2, rfl⟩ : ∃ u v, (rs.getD s.toNat [])[x]? = some u ∧ (rs.getD t.toNat [])[x]? = some v ∧ p = (u, v))
    have lt : x < A := by
      rw [← l1]
      exact (List.getElem?_eq_some_iff.mp h1).1
    refine ⟨x, lt, ?_⟩
    rw [h3, Int.toNat_natCast, getD_of h1, getD_of h2]
  · rintro ⟨x, hx, rfl⟩
    rw [Int.toNat_natCast]
    have h1 : (rs.getD s.toNat [])[x]? = some ((rs.getD s.toNat []).getD x 0) := by
      rw [List.getElem?_eq_getElem (by omega)]
      exact congrArg some (getD_of (List.getElem?_eq_getElem (by omega))).symm
    have h2 : (rs.getD t.toNat [])[x]? = some ((rs.getD t.toNat []).getD x 0) := by
      rw [List.getElem?_eq_getElem (by omega)]
      exact congrArg some (getD_of (List.getElem?_eq_getElem (by omega))).symm
    exact List.mem_of_getElem? (List.getElem?_zip_eq_some.mpr ⟨h1, h2⟩)
theorem zipS_len {rs : List (List Int)} {A : Nat} (R : Rs A rs) {s t : Int} (s0 : 0 ≤ s) (s1 : s < rs.length) (t0 : 0 ≤ t) (t1 : t < rs.length) : (zipS rs s t).length = A := by
  have l1 := (R.row _ (mem_of_get (item_of s0 s1 ([] : List Int)))).1
  have l2 := (R.row _ (mem_of_get (item_of t0 t1 ([] : List Int)))).1
  unfold zipS
  rw [List.length_zip, l1, l2, Nat.min_self]
theorem Cl.join {rs : List (List Int)} {A : Nat} (R : Rs A rs) {ps W : List (Int × Int)} {L : List Int} {s t a b : Int} (c : Cl rs A ps L (W ++ [(s, t)])) (hs : L[s.toNat]? = some a) (ht : L[t.toNat]? = some b) : Cl rs A ps (mrg L a b) (W ++ zipS rs s t) := by
  obtain ⟨⟨s0, s1⟩, t0, t1⟩ := c.wr (s, t) (List.mem_append_right _ List.mem_cons_self)
  have s0 : 0 ≤ s := s0
  have s1 : s < (rs.length : Int) := s1
  have t0 : 0 ≤ t := t0
  have t1 : t < (rs.length : Int) := t1
  have len : (mrg L a b).length = rs.length := by
    unfold mrg
    rw [List.length_map, c.len]
  have ss : ((s.toNat : Nat) : Int) = s := by omega
  have tt : ((t.toNat : Nat) : Int) = t := by omega
  have es : s.toNat < rs.length := by omega
  have et : t.toNat < rs.length := by omega
  refine ⟨len, fun z hz => ?_, fun p hp => ?_, fun E hl hc hp => ?_, fun E hl hL hW => ?_⟩
  · unfold mrg at hz
    obtain ⟨l, hl, rfl⟩ := List.mem_map.mp hz
    by_cases e : l = b
    · rw [if_pos e]
      exact c.rng _ (List.mem_of_getElem? hs)
    · rw [if_neg e]
      exact c.rng _ hl
  · rcases List.mem_append.mp hp with q | q
    · exact c.wr p (List.mem_append_left _ q)
    · obtain ⟨x, hx, rfl⟩ := (zipS_mem R s0 s1 t0 t1).mp q
      exact ⟨R.stp s0 s1 (by omega) (by omega), R.stp t0 t1 (by omega) (by omega)⟩
  · obtain ⟨h1, h2⟩ := c.below E hl hc hp
    have hst : sm E s.toNat t.toNat := h2 (s, t) (List.mem_append_right _ List.mem_cons_self)
    refine ⟨fun i j hi hj h => ?_, fun p hp => ?_⟩
    · rcases sm_mrg hs ht (by rw [c.len]; exact hi) (by rw [c.len]; exact hj) h with q | ⟨q1, q2⟩ | ⟨q1, q2⟩
      · exact h1 i j hi hj q
      · exact (h1 _ _ hi es q1).trans (hst.trans (h1 _ _ et hj q2))
      · exact (h1 _ _ hi et q1).trans (hst.symm.trans (h1 _ _ es hj q2))
    · rcases List.mem_append.mp hp with q | q
      · exact h2 p (List.mem_append_left _ q)
      · obtain ⟨x, hx, rfl⟩ := (zipS_mem R s0 s1 t0 t1).mp q
        have := hc s.toNat t.toNat es et hst x hx
        rw [ss, tt] at this
        exact this
  · obtain ⟨m1, m2⟩ := mrg_sm hs ht
    have hst : sm E s.toNat t.toNat := hL _ _ es et m1
    have hLE : Le rs.length L E := fun i j hi hj h => hL i j hi hj (m2 i j h)
    obtain ⟨u1, u2⟩ := c.up E hl hLE fun p hp => by
      rcases List.mem_append.mp hp with q | q
      · exact hW p (List.mem_append_left _ q)
      · rw [List.mem_singleton.mp q]
        exact hst
    have hz : ∀ x, x < A → sm E (stp rs s (x : Int)).toNat (stp rs t (x : Int)).toNat := fun x hx => hW _ (List.mem_append_right _ ((zipS_mem R s0 s1 t0 t1).mpr ⟨x, hx, rfl⟩))
    refine ⟨fun i j hi hj h x hx => ?_, u2⟩
    rcases sm_mrg hs ht (by rw [c.len]; exact hi) (by rw [c.len]; exact hj) h with q | ⟨q1, q2⟩ | ⟨q1, q2⟩
    · exact u1 i j hi hj q x hx
    · have r1 := u1 _ _ hi es q1 x hx
      have r2 := u1 _ _ et hj q2 x hx
      rw [ss] at r1
      rw [tt] at r2
      exact r1.trans ((hz x hx).trans r2)
    · have r1 := u1 _ _ hi et q1 x hx
      have r2 := u1 _ _ es hj q2 x hx
      rw [tt] at r1
      rw [ss] at r2
      exact r1.trans ((hz x hx).symm.trans r2)
theorem Cl.done {rs : List (List Int)} {A : Nat} (R : Rs A rs) {ps : List (Int × Int)} {L : List Int} (c : Cl rs A ps L []) (wr : ∀ p ∈ ps, (0 ≤ p.1 ∧ p.1 < (rs.length : Int)) ∧ (0 ≤ p.2 ∧ p.2 < (rs.length : Int))) : LeastFace rs A ps (kerG L) := by
  have lk : ∀ {i}, i < rs.length → i < L.length := fun h => by rw [c.len]; exact h
  have e : ∀ {i j}, i < rs.length → j < rs.length → (sm (kerG L) i j ↔ sm L i j) := fun hi hj => sm_ker (lk hi) (lk hj)
  obtain ⟨u1, u2⟩ := c.up L c.len (fun i j hi hj h => h) fun p hp => by cases hp
  refine ⟨by rw [ker_len, c.len], ker_ker L, fun i j hi hj h x hx => ?_, fun p hp => ?_, fun E hl hc hp i j hi hj h => (c.below E hl hc hp).1 i j hi hj ((e hi hj).mp h)⟩
  · have r1 := R.stp (s := (i : Int)) (c := (x : Int)) (by omega) (by omega) (by omega) (by omega)
    have r2 := R.stp (s := (j : Int)) (c := (x : Int)) (by omega) (by omega) (by omega) (by omega)
    exact (e (by omega) (by omega)).mpr (u1 i j hi hj ((e hi hj).mp h) x hx)
  · obtain ⟨w1, w2⟩ := wr p hp
    exact (e (by omega) (by omega)).mpr (u2 p hp)
/-! the measure -/
def cnt (n : Nat) (L : List Int) : Nat := (List.range n).countP fun (v : Nat) => decide ((v : Int) ∈ L)
theorem countP_lt {α : Type} {p q : α → Bool} : ∀ {l : List α}, (∀ x ∈ l, p x = true → q x = true) → (∃ x ∈ l, q x = true ∧ p x = false) → l.countP p < l.countP q
  | [], _, h => by
    obtain ⟨x, hx, _⟩ := h
    cases hx
  | y :: l, hpq, ⟨x, hx, h1, h2⟩ => by
    have le : l.countP p ≤ l.countP q := List.countP_mono_left fun z hz hp => hpq z (List.mem_cons_of_mem _ hz) hp
    rw [List.countP_cons, List.countP_cons]
    rcases List.mem_cons.mp hx with rfl | hx'
    · rw [h1, h2]
      simp
      omega
    · have ih := countP_lt (l := l) (fun z hz => hpq z (List.mem_cons_of_mem _ hz)) ⟨x, hx', h1, h2⟩
      have hy := hpq y List.mem_cons_self
      by_cases e : p y = true
      · rw [if_pos e, if_pos (hy e)]
        omega
      · rw [if_neg e]
        omega
theorem cnt_mrg {n : Nat} {L : List Int} {s t : Nat} {a b : Int} (hs : L[s]? = some a) (ht : L[t]? = some b) (ne : a ≠ b) (hr : ∀ z ∈ L, 0 ≤ z ∧ z < (n : Int)) : cnt n (mrg L a b) < cnt n L := by
  have hb := List.mem_of_getElem? ht
  obtain ⟨b0, b1⟩ := hr b hb
  refine countP_lt (fun v hv h => ?_) ⟨b.toNat, List.mem_range.mpr (by omega), ?_, ?_⟩
  · have h := of_decide_eq_true h
    unfold mrg at h
    obtain ⟨l, hl, e⟩ := List.mem_map.mp h
    refine decide_eq_true ?_
    by_cases q : l = b
    · rw [if_pos q] at e
      rw [← e]
      exact List.mem_of_getElem? hs
    · rw [if_neg q] at e
      rw [← e]
      exact hl
  · refine decide_eq_true ?_
    rw [show ((b.toNat : Nat) : Int) = b by omega]
    exact hb
  · refine decide_eq_false fun h => ?_
    rw [show ((b.toNat : Nat) : Int) = b by omega] at h
    unfold mrg at h
    obtain ⟨l, hl, e⟩ := List.mem_map.mp h
    by_cases q : l = b
    · rw [if_pos q] at e
      exact ne e
    · rw [if_neg q] at e
      exact q e
theorem cnt_le (n : Nat) (L : List Int) : cnt n L ≤ n := by
  have := List.countP_le_length (p := fun (v : Nat) => decide ((v : Int) ∈ L)) (l := List.range n)
  rw [List.length_range] at this
  exact this
/-! ### common classes, all divisions -/
def colsL (ps : List (List Int)) (n : Nat) : List (List Int) := (List.range n).map fun s => ps.map fun p => p.getD s 0
def comL (ps : List (List Int)) (n : Nat) : List Int := kerG (colsL ps n)
theorem colsL_len (ps : List (List Int)) (n : Nat) : (colsL ps n).length = n := by
  unfold colsL
  simp
theorem sm_cols {ps : List (List Int)} {n : Nat} (hp : ∀ p ∈ ps, p.length = n) {i j : Nat} (hi : i < n) (hj : j < n) : sm (colsL ps n) i j ↔ ∀ p ∈ ps, sm p i j := by
  have g : ∀ {i : Nat}, i < n → (colsL ps n)[i]? = some (ps.map fun p => p.getD i 0) := fun {i} h => by
    unfold colsL
    rw [List.getElem?_map, List.getElem?_range h]
    rfl
  unfold sm
  rw [g hi, g hj]
  constructor
  · intro h p hpm
    have e := List.map_inj_left.mp (Option.some.inj h) p hpm
    exact (getD_sm (by rw [hp p hpm]; exact hi) (by rw [hp p hpm]; exact hj)).mp e
  · intro h
    congr 1
    exact List.map_inj_left.mpr fun p hpm => (getD_sm (by rw [hp p hpm]; exact hi) (by rw [hp p hpm]; exact hj)).mpr (h p hpm)
theorem com_least {rs : List (List Int)} {A : Nat} {ps : List (Int × Int)} {R : List Int} (x : LeastFace rs A ps R) {fs : List (List Int)} (h : ∀ F ∈ fs, F.length = rs.length ∧ Cong rs A F ∧ Holds ps F) (hm : R ∈ fs) : comL fs rs.length = R := by
  unfold comL
  rw [← x.canon]
  refine ker_ext (by rw [colsL_len, x.len]) fun i j hi hj => ?_
  rw [colsL_len] at hi hj
  rw [sm_cols (fun p hp => (h p hp).1) hi hj]
  constructor
  · exact fun q => q R hm
  · intro q F hF
    obtain ⟨h1, h2, h3⟩ := h F hF
    exact x.least F h1 h2 h3 i j hi hj q
theorem com_zip {one other : List Int} {n : Nat} (h1 : one.length = n) (h2 : other.length = n) : kerG (List.zip one other) = comL [one, other] n := by
  unfold comL
  have lz : (List.zip one other).length = n := by rw [List.length_zip, h1, h2, Nat.min_self]
  refine ker_ext (by rw [colsL_len, lz]) fun i j hi hj => ?_
  rw [lz] at hi hj
  rw [sm_cols (fun p hp => by rcases List.mem_cons.mp hp with rfl | hp; exact h1; rw [List.mem_singleton.mp hp]; exact h2) hi hj]
  have g : ∀ {i : Nat}, i < n → ∃ x y, one[i]? = some x ∧ other[i]? = some y ∧ (List.zip one other)[i]? = some (x, y) := fun {i} h => by
    obtain ⟨x, hx⟩ : ∃ x, one[i]? = some x := ⟨_, List.getElem?_eq_getElem (by omega)⟩
    obtain ⟨y, hy⟩ : ∃ y, other[i]? = some y := ⟨_, List.getElem?_eq_getElem (by omega)⟩
    exact ⟨x, y, hx, hy, List.getElem?_zip_eq_some.mpr ⟨hx, hy⟩⟩
  obtain ⟨x, y, a1, a2, a3⟩ := g hi
  obtain ⟨u, v, b1, b2, b3⟩ := g hj
  unfold sm
  rw [a3, b3]
  constructor
  · intro h p hp
    have e := Option.some.inj h
    injection e with e1 e2
    rcases List.mem_cons.mp hp with rfl | hp
    · rw [a1, b1, e1]
    · rw [List.mem_singleton.mp hp, a2, b2, e2]
  · intro h
    have e1 := h one List.mem_cons_self
    have e2 := h other (List.mem_cons_of_mem _ List.mem_cons_self)
    rw [a1, b1] at e1
    rw [a2, b2] at e2
    rw [Option.some.inj e1, Option.some.inj e2]
/-- all divisions of so many states -/
def oneMore (m : Nat) (p : List Int) : List (List Int) := ((rngI (m + 1)).filter fun l => decide (l = (m : Int)) || decide (p.getD l.toNat 0 = l)).map fun l => p ++ [l]
def partsL : Nat → List (List Int)
  | 0 => [[]]
  | m + 1 => (partsL m).flatMap (oneMore m)
theorem mem_rngI {n : Nat} {l : Int} : l ∈ rngI n ↔ 0 ≤ l ∧ l < (n : Int) := by
  unfold rngI
  constructor
  · intro h
    obtain ⟨i, hi, rfl⟩ := List.mem_map.mp h
    have := List.mem_range.mp hi
    omega
  · rintro ⟨h0, h1⟩
    exact List.mem_map.mpr ⟨l.toNat, List.mem_range.mpr (by omega), by omega⟩
theorem idx_app {q r : List Int} {x : Int} (h : x ∈ q) : (q ++ r).idxOf x = q.idxOf x := by
  rw [List.idxOf_append, if_pos h]
theorem canon_snoc {q : List Int} {l : Int} : kerG (q ++ [l]) = q ++ [l] ↔ kerG q = q ∧ (l = (q.length : Int) ∨ (0 ≤ l ∧ q[l.toNat]? = some l)) := by
  have e1 : kerG (q ++ [l]) = kerG q ++ [(((q ++ [l]).idxOf l : Nat) : Int)] := by
    unfold kerG
    rw [List.map_append]
    congr 1
    exact List.map_inj_left.mpr fun x hx => by rw [idx_app hx]
  rw [e1]
  constructor
  · intro h
    obtain ⟨h1, h2⟩ := List.append_inj h (ker_len q)
    refine ⟨h1, ?_⟩
    have h3 : (((q ++ [l]).idxOf l : Nat) : Int) = l := by injection h2
    by_cases hm : l ∈ q
    · rw [idx_app hm] at h3
      refine .inr ⟨by omega, ?_⟩
      have := (idxG hm).1
      rw [show l.toNat = q.idxOf l by omega]
      exact this
    · rw [List.idxOf_append, if_neg hm] at h3
      simp at h3
      exact .inl (by omega)
  · rintro ⟨h1, h2⟩
    rw [h1]
    congr 1
    by_cases hm : l ∈ q
    · have hc := canon_at h1 (idxG hm).1
      have hk := ker_get (idxG hm).1
      rw [h1, (idxG hm).1] at hk
      rw [idx_app hm, ← Option.some.inj hk]
    · rcases h2 with h2 | ⟨h3, h4⟩
      · rw [List.idxOf_append, if_neg hm, h2]
        simp
      · exact absurd (List.mem_of_getElem? h4) hm
theorem mem_parts : ∀ {m : Nat} {p : List Int}, p ∈ partsL m ↔ p.length = m ∧ kerG p = p
  | 0, p => by
    unfold partsL
    rw [List.mem_singleton]
    constructor
    · rintro rfl
      exact ⟨rfl, rfl⟩
    · rintro ⟨h, _⟩
      exact List.length_eq_zero_iff.mp h
  | m + 1, p => by
    unfold partsL
    rw [List.mem_flatMap]
    constructor
    · rintro ⟨q, hq, hp⟩
      obtain ⟨h1, h2⟩ := mem_parts.mp hq
      unfold oneMore at hp
      obtain ⟨l, hl, rfl⟩ := List.mem_map.mp hp
      obtain ⟨hl1, hl2⟩ := List.mem_filter.mp hl
      obtain ⟨l0, l1⟩ := mem_rngI.mp hl1
      refine ⟨by rw [List.length_append, h1]; rfl, canon_snoc.mpr ⟨h2, ?_⟩⟩
      by_cases e : l = (m : Int)
      · exact .inl (by rw [h1]; exact e)
      · rw [decide_eq_false e, Bool.false_or] at hl2
        have hl2 := of_decide_eq_true hl2
        have lt : l.toNat < q.length := by omega
        refine .inr ⟨l0, ?_⟩
        rw [List.getElem?_eq_getElem lt, ← getD_of (d := 0) (List.getElem?_eq_getElem lt), hl2]
    · rintro ⟨hl, hc⟩
      have ne : p ≠ [] := fun e => by
        rw [e] at hl
        simp at hl
      have es := List.dropLast_concat_getLast ne
      rw [← es] at hc
      obtain ⟨h1, h2⟩ := canon_snoc.mp hc
      have hl' : p.dropLast.length = m := by rw [List.length_dropLast, hl]; rfl
      refine ⟨p.dropLast, mem_parts.mpr ⟨hl', h1⟩, ?_⟩
      unfold oneMore
      refine List.mem_map.mpr ⟨p.getLast ne, List.mem_filter.mpr ⟨mem_rngI.mpr ?_, ?_⟩, es⟩
      · rcases h2 with h2 | ⟨h3, h4⟩
        · omega
        · have := (List.getElem?_eq_some_iff.mp h4).1
          omega
      · rcases h2 with h2 | ⟨h3, h4⟩
        · rw [h2, hl', decide_eq_true rfl, Bool.true_or]
        · rw [getD_of h4, decide_eq_true (rfl : p.getLast ne = p.getLast ne), Bool.or_true]
theorem parts_few {m : Nat} (h : m ≤ 4) : (partsL m).length ≤ 15 := by
  match m, h with
  | 0, _ => decide
  | 1, _ => decide
  | 2, _ => decide
  | 3, _ => decide
  | 4, _ => decide +kernel
end Lk

set_option Elab.async false
set_option linter.all false
set_option maxRecDepth 100000
set_option maxHeartbeats 4000000
/-! kernel_of over tuples as labels -/
namespace Lk
open PySem L2
instance (priority := 10000) keysBEq : BEq (List Key) := instBEqOfDecidableEq
theorem idx_atG {α : Type} [BEq α] [LawfulBEq α] {x : α} {xs : List α} {i : Nat} (h : xs[i]? = some x) (hn : x ∉ xs.take i) : xs.idxOf x = i := by
  obtain ⟨h1, h2⟩ := idxG (List.mem_of_getElem? h)
  have l := idx_le h
  rcases Nat.lt_or_ge (xs.idxOf x) i with q | q
  · refine absurd ?_ hn
    exact List.mem_of_getElem? (i := xs.idxOf x) (by rw [List.getElem?_take, if_pos q]; exact h1)
  · omega
/-- a list of tuples, as keys -/
def KeysAt (H : Hp) (ts : List Addr) (ks : List (List Key)) : Prop := ts.length = ks.length ∧ ∀ (i : Nat) (t : Addr) (k : List Key), ts[i]? = some t → ks[i]? = some k → H t = some (.tup (k.map kV))
theorem KeysAt.same {H H' : Hp} {ts : List Addr} {ks : List (List Key)} (x : KeysAt H ts ks) (S : Same H H') : KeysAt H' ts ks := ⟨x.1, fun i t k h1 h2 => S _ _ (x.2 i t k h1 h2)⟩
def spKOfT (K : PySem.W.Frag) : Sp := fun vs H Q _ => ∃ (a : Addr) (ts : List Addr) (ks : List (List Key)), vs = [.ref a] ∧ SqL K H a (ts.map V.ref) ∧ KeysAt H ts ks ∧ ks.length ≤ 1000 ∧ ∀ H' q, Same H H' → H q = none → H' q = some (.tup ((kerG ks).map V.int)) → Q (.ref q) H'
section
variable {K : PySem.W.Frag} {J : It} {G : Hp → Prop} {σ : St} {H1 : Hp} {f D : Addr} {Qd : Hp → Prop}
theorem kof_lcT {ts : List Addr} {ks : List (List Key)} (w : Walk J ks.length G (YPair (fun i => some (.int (i : Nat))) (fun i => (ts.map V.ref)[i]?))) (hk : KeysAt H1 ts ks) (hf : H1 f = none) (hD : upd H1 f (.dT []) D = none) (hz : ks.length ≤ 1000) (hG : ∀ H, Same H1 H → G H)
    (h1 : σ[1]? = some (some (.ref f))) (hl : 3 < σ.length) (hd : ∀ H', Same H1 H' → H' D = some (.lst ((kerG ks).map V.int)) → Qd H') :
    ∃ W : Nat → Nat → Hp → Prop, (∃ m, W 0 m (upd (upd H1 f (.dT [])) D (.lst []))) ∧ ∀ i m H, W i m H →
      (J.stop i H ∧ Qd H) ∨ (J.go i H ∧ ∃ Nx : Hp → Prop, (∀ H', Nx H' → ∃ m', m' < m ∧ W (i + 1) m' H') ∧ ∀ x H', J.yld i H x H' → gTup K 2 (gCons (gName 2) (gCons (gName 3) gNil)) x (wipe σ [2, 3]) H' fun σ2 H2 => wipe σ2 [2, 3] = wipe σ [2, 3] ∧ tYes σ2 H2 fun b H3 =>
        if b = true then tDSetT (tVar 1) (tVar 3) (tVar 2) σ2 H3 fun y H4 => ∃ acc, H4 D = some (.lst acc) ∧ acc.length < sizeLine ∧ Nx (upd H4 D (.lst (acc ++ [y]))) else Nx H3) := by
  have nDf : D ≠ f := fun e => by
    rw [e, upd_same] at hD
    cases hD
  have hD0 : H1 D = none := by
    rw [upd_ne nDf] at hD
    exact hD
  refine lc_it w (fun i H => Same H1 H ∧ (∃ kvs : List (List Key × V), H f = some (.dT kvs) ∧ kvs.length ≤ i ∧ ∀ x : List Key, valV kvs x = if x ∈ ks.take i then some (.int ((ks.idxOf x : Nat) : Int)) else none) ∧ H D = some (.lst (((kerG ks).take i).map V.int)))
    ⟨(Same.new hf).trans (Same.new hD), ⟨[], by rw [upd_ne nDf.symm, upd_same], Nat.le_refl _, fun x => by simp [valV_nil]⟩, upd_same⟩ (fun i H _ p => hG H p.1) ?_ (fun H p => hd H p.1 (by
      have e := p.2.2
      rw [List.take_of_length_le (by rw [ker_len]; exact Nat.le_refl _)] at e
      exact e))
  rintro i v H H' hi ⟨p1, ⟨kvs, p2, p3, p4⟩, p5⟩ ⟨T, x, y, rfl, hT, rfl, ex, ey⟩
  obtain rfl := (Option.some.inj ex).symm
  obtain ⟨z, hz', rfl⟩ : ∃ z, ts[i]? = some z ∧ V.ref z = y := by
    have ey : (ts.map V.ref)[i]? = some y := ey
    rw [List.getElem?_map] at ey
    cases e : ts[i]? with
    | none => rw [e] at ey; cases ey
    | some z => rw [e] at ey; exact ⟨z, rfl, Option.some.inj ey⟩
  obtain ⟨k, hk'⟩ : ∃ k, ks[i]? = some k := ⟨_, List.getElem?_eq_getElem hi⟩
  have nTf : f ≠ T := ne_of_none p2 hT
  have nTD : D ≠ T := ne_of_none p5 hT
  have q1 : Same H1 (upd H T (.tup [V.int (i : Nat), V.ref z])) := p1.trans (Same.new hT)
  have q2 : upd H T (.tup [V.int (i : Nat), V.ref z]) f = some (.dT kvs) := (upd_ne nTf).trans p2
  have q5 : upd H T (.tup [V.int (i : Nat), V.ref z]) D = some (.lst (((kerG ks).take i).map V.int)) := (upd_ne nTD).trans p5
  have qz := q1 _ _ (hk.2 i z k hz' hk')
  have accl : (((kerG ks).take i).map V.int).length < sizeLine := by
    rw [List.length_map]
    exact Nat.lt_of_le_of_lt (Nat.le_trans (by rw [List.length_take]; exact Nat.min_le_left _ _) (Nat.le_trans (Nat.le_of_lt hi) hz)) (by decide)
  have kl : kvs.length < sizeLine := Nat.lt_of_le_of_lt (Nat.le_trans p3 (Nat.le_trans (Nat.le_of_lt hi) hz)) (by decide)
  have ek : ((kerG ks).take i).map V.int ++ [V.int ((ks.idxOf k : Nat) : Int)] = ((kerG ks).take (i + 1)).map V.int := by
    rw [take_next (ker_get hk'), List.map_append]
    rfl
  refine ⟨T, _, rfl, SqT.of upd_same, rfl, _, _, rfl, _, _, rfl, rfl, wipe2 _ _, ?_⟩
  refine tYes_go ?_
  simp only [↓reduceIte]
  have g1 : (((wipe σ [2, 3]).set 2 (some (V.int (i : Nat)))).set 3 (some (V.ref z)))[1]? = some (some (.ref f)) := by
    show (((((σ.set 3 none).set 2 none).set 2 _).set 3 _))[1]? = _
    rw [List.getElem?_set_ne (by decide), List.getElem?_set_ne (by decide), List.getElem?_set_ne (by decide), List.getElem?_set_ne (by decide)]
    exact h1
  have g2 : (((wipe σ [2, 3]).set 2 (some (V.int (i : Nat)))).set 3 (some (V.ref z)))[2]? = some (some (.int (i : Nat))) := by
    rw [List.getElem?_set_ne (by decide), List.getElem?_set_self (by rw [wipe_length]; omega)]
  have g3 : (((wipe σ [2, 3]).set 2 (some (V.int (i : Nat)))).set 3 (some (V.ref z)))[3]? = some (some (.ref z)) := by
    rw [List.getElem?_set_self (by rw [List.length_set, wipe_length]; exact hl)]
  refine ⟨_, g1, f, rfl, .inr ⟨kvs, .inl q2⟩, _, g3, _, g2, kvs, k, z, q2, rfl, qz, kl, fun v hv => ?_, fun hv => ?_⟩
  · have e := p4 k
    rw [hv] at e
    by_cases hm : k ∈ ks.take i
    · rw [if_pos hm] at e
      obtain rfl := Option.some.inj e
      refine ⟨_, q5, accl, ((KP.same (S := fun _ => False) q1).mut hD0).toSame, ⟨kvs, (upd_ne nDf.symm).trans q2, Nat.le_succ_of_le p3, fun x => ?_⟩, by rw [upd_same, ek]⟩
      rw [p4 x, take_next hk']
      by_cases hx : x ∈ ks.take i
      · rw [if_pos hx, if_pos (List.mem_append_left _ hx)]
      · rw [if_neg hx, if_neg (fun q => (List.mem_append.mp q).elim hx fun q => hx (by rw [List.mem_singleton.mp q]; exact hm))]
    · rw [if_neg hm] at e
      cases e
  · have e := p4 k
    rw [hv] at e
    by_cases hm : k ∈ ks.take i
    · rw [if_pos hm] at e
      cases e
    · have ei := idx_atG hk' hm
      refine ⟨_, (upd_ne nDf).trans q5, accl, (((KP.same (S := fun _ => False) q1).mut hf).mut hD0).toSame, ⟨putK kvs k (.int (i : Nat)), (upd_ne nDf.symm).trans upd_same, Nat.le_trans (putK_len ..) (Nat.succ_le_succ p3), fun x => ?_⟩, by rw [upd_same, ← ek, ei]⟩
      rw [valV_put, take_next hk']
      by_cases hx : x = k
      · rw [if_pos (by rw [hx]), if_pos (List.mem_append_right _ (by rw [hx]; exact List.mem_cons_self)), hx, ei]
      · rw [if_neg hx, p4 x]
        by_cases hx2 : x ∈ ks.take i
        · rw [if_pos hx2, if_pos (List.mem_append_left _ hx2)]
        · rw [if_neg hx2, if_neg (fun q => (List.mem_append.mp q).elim hx2 fun q => hx (List.mem_singleton.mp q))]
end
section
variable {P : Program} {w : World} {K : PySem.W.Frag} {mg : Str → Option Value} {base : Heap}
theorem ok_kofT {f : Addr} {fd : FuncData} (A0 : Df K mg "kernel_of" s_kernel_of f fd P_kernel_of) (T : Txt mg) : FnOk P w K mg base CX0 1 f fd P_kernel_of (spKOfT K) := by
  refine A0.F.ok sc_kernel_of (fun vs H Q E h => ?_) (fun cdv A outer s H vs Q E hr h => ?_)
  · obtain ⟨a, ts, ks, rfl, _⟩ := h
    rfl
  · obtain ⟨a, ts, ks, rfl, ha, hk, hz, k⟩ := h
    have hu : A.units + 3 + 1 < cLine := by have := hr.un; simp only [Around.deeper] at this; omega
    refine ⟨_, (pss_cons (ps_set (i := 1) sc_kernel_of.nd rfl (Or.inr rfl) pe_dnewT)
      (pss_one (ps_ret (pe_tupleOf (by rfl) T.tuple (pe_lc (own := [("index", 2), ("label", 3)]) (g := gTup K 2 (gCons (gName 2) (gCons (gName 3) gNil))) (tt := tYes) (te := tDSetT (tVar 1) (tVar 3) (tVar 2)) rfl sc_kernel_of.nd (pi_enum (by rfl) T.enumerate (pa_cons (pv 0) pa_nil)) (blkOk_by (N := N_kernel_of) (sc := defScope s_kernel_of) (by decide +kernel)) (fun _ _ _ _ _ => (pg_tup rfl (pgs_cons (pg_name (i := 2) sc_kernel_of.nd rfl (Or.inl rfl)) (pgs_cons (pg_name (i := 3) sc_kernel_of.nd rfl (Or.inl rfl)) pgs_nil)))) (fun _ _ _ _ _ => pts_nil) (fun _ _ _ _ _ => (pe_dsetT hu (pv 1) (pv 3) (pv 2) ⟨rfl, rfl, rfl, rfl⟩))))))), ?_⟩
    refine fun f0 hf0 => ?_
    have ha' := Same.seq (Same.new (o := HO.dT []) hf0) ha
    have wk := walk_enum (K := K) (a := a) (xs := ts.map V.ref)
    rw [List.length_map, hk.1] at wk
    refine ⟨_, rfl, a, _, rfl, ha', fun D hD => ?_⟩
    refine kof_lcT (H1 := H) wk hk hf0 hD hz (fun H' S => Same.seq S ha) rfl (by show 3 < 4; decide) (fun H' S e => .inl ⟨D, _, rfl, SqL.of e, fun p hp => ?_⟩)
    exact k _ p (S.trans (Same.new hp)) (KP.free (S := fun _ => False) (KP.same S) (fun x => x.elim) hp) upd_same
end
end Lk

set_option Elab.async false
set_option linter.all false
set_option maxRecDepth 100000
set_option maxHeartbeats 4000000
/-! comprehensions that write nothing but new objects, over any walk, with a test -/
namespace Lk
open PySem L2
theorem walk_zipT {K : PySem.W.Frag} {a b : Addr} {xs ys : List V} (hl : xs.length = ys.length) : Walk (RZ.ItzT K a b) xs.length (fun H => SqT K H a xs ∧ SqT K H b ys) (YPair (fun i => xs[i]?) (fun i => ys[i]?)) := by
  refine ⟨fun i H hi q => ?_, fun H q => ⟨xs, ys, q.1, q.2, Or.inl (Nat.le_refl _)⟩, fun i H v H' _ q y => ?_⟩
  · exact ⟨xs, ys, xs[i], ys[i], q.1, q.2, by simp [hi], by simp [hl ▸ hi]⟩
  · obtain ⟨T, x, z, h1, h2, h3, h4, h5⟩ := y
    exact ⟨T, x, z, h1, h2, h3, h4 xs q.1, h5 ys q.2⟩
theorem range_fm {opt : Nat → Option V} {i : Nat} : (List.range (i + 1)).filterMap opt = (List.range i).filterMap opt ++ (opt i).toList := by
  rw [List.range_succ, List.filterMap_append]
  congr 1
theorem fm_len {opt : Nat → Option V} (n : Nat) : ((List.range n).filterMap opt).length ≤ n := by
  have := List.length_filterMap_le opt (List.range n)
  rw [List.length_range] at this
  exact this
theorem fm_take (xs : List V) : ∀ i, i ≤ xs.length → (List.range i).filterMap (fun k => xs[k]?) = xs.take i
  | 0, _ => by rw [List.take_zero] <;> rfl
  | i + 1, h => by
    rw [range_fm, fm_take xs i (by omega), take_next (List.getElem?_eq_getElem (show i < xs.length by omega)), List.getElem?_eq_getElem (show i < xs.length by omega)]
    rfl
theorem fm_get (xs : List V) {n : Nat} (h : xs.length = n) : (List.range n).filterMap (fun k => xs[k]?) = xs := by
  rw [fm_take xs n (by omega), List.take_of_length_le (by omega)]
section
variable {J : It} {n : Nat} {G : Hp → Prop} {Y : Nat → Hp → V → Hp → Prop} {g : TG} {tt : TT} {te : TE} {vs : List Nat} {σ : St} {H1 : Hp} {D : Addr} {Qd : Hp → Prop}
theorem lcW (w : Walk J n G Y) (opt : Nat → Option V) (hD : H1 D = none) (hn : n ≤ 1000000) (hG : ∀ H, Same H1 H → G H)
    (hs : ∀ i x H H', i < n → Same H1 H → Y i H x H' → ∀ (N : Hp → Prop) (Q : VK), (opt i = none → ∀ H3, Same H H3 → N H3) → (∀ y, opt i = some y → ∀ H4, Same H H4 → Q y H4) → g x (wipe σ vs) H' fun σ2 H2 => wipe σ2 vs = wipe σ vs ∧ tt σ2 H2 fun b H3 => if b = true then te σ2 H3 Q else N H3)
    (hd : ∀ H', Same H1 H' → H' D = some (.lst ((List.range n).filterMap opt)) → Qd H') :
    ∃ W : Nat → Nat → Hp → Prop, (∃ m, W 0 m (upd H1 D (.lst []))) ∧ ∀ i m H, W i m H →
      (J.stop i H ∧ Qd H) ∨ (J.go i H ∧ ∃ Nx : Hp → Prop, (∀ H', Nx H' → ∃ m', m' < m ∧ W (i + 1) m' H') ∧ ∀ x H', J.yld i H x H' → g x (wipe σ vs) H' fun σ2 H2 => wipe σ2 vs = wipe σ vs ∧ tt σ2 H2 fun b H3 =>
        if b = true then te σ2 H3 fun y H4 => ∃ acc, H4 D = some (.lst acc) ∧ acc.length < sizeLine ∧ Nx (upd H4 D (.lst (acc ++ [y]))) else Nx H3) := by
  refine lc_it w (fun i H => Same H1 H ∧ H D = some (.lst ((List.range i).filterMap opt))) ⟨Same.new hD, upd_same⟩ (fun i H _ p => hG H p.1) (fun i x H H' hi p y => ?_) (fun H p => hd H p.1 p.2)
  refine hs i x H H' hi p.1 y _ _ (fun e H3 S3 => ⟨p.1.trans S3, ?_⟩) (fun z e H4 S4 => ⟨_, S4 _ _ p.2, ?_, ((KP.same (S := fun _ => False) (p.1.trans S4)).mut hD).toSame, ?_⟩)
  · rw [S3 _ _ p.2, range_fm, e]
    simp
  · exact Nat.lt_of_le_of_lt (Nat.le_trans (fm_len i) (Nat.le_trans (Nat.le_of_lt hi) hn)) (by decide)
  · rw [upd_same, range_fm, e]
    rfl
end
section
variable {K : PySem.W.Frag} {J : It} {n : Nat} {G : Hp → Prop} {tt : TT} {te : TE} {i j : Nat} {σ : St} {H1 : Hp} {D : Addr} {Qd : Hp → Prop}
/-- one name, the items told by val -/
theorem lcW1 (val : Nat → Option V) (w : Walk J n G fun i H x H' => H' = H ∧ val i = some x) (opt : Nat → Option V) (hD : H1 D = none) (hn : n ≤ 1000000) (hG : ∀ H, Same H1 H → G H)
    (hs : ∀ i x H, i < n → Same H1 H → val i = some x → ∀ (N : Hp → Prop) (Q : VK), (opt i = none → ∀ H3, Same H H3 → N H3) → (∀ y, opt i = some y → ∀ H4, Same H H4 → Q y H4) → tt ((wipe σ [j]).set j (some x)) H fun b H3 => if b = true then te ((wipe σ [j]).set j (some x)) H3 Q else N H3)
    (hd : ∀ H', Same H1 H' → H' D = some (.lst ((List.range n).filterMap opt)) → Qd H') :
    ∃ W : Nat → Nat → Hp → Prop, (∃ m, W 0 m (upd H1 D (.lst []))) ∧ ∀ i m H, W i m H →
      (J.stop i H ∧ Qd H) ∨ (J.go i H ∧ ∃ Nx : Hp → Prop, (∀ H', Nx H' → ∃ m', m' < m ∧ W (i + 1) m' H') ∧ ∀ x H', J.yld i H x H' → gName j x (wipe σ [j]) H' fun σ2 H2 => wipe σ2 [j] = wipe σ [j] ∧ tt σ2 H2 fun b H3 =>
        if b = true then te σ2 H3 fun y H4 => ∃ acc, H4 D = some (.lst acc) ∧ acc.length < sizeLine ∧ Nx (upd H4 D (.lst (acc ++ [y]))) else Nx H3) := by
  refine lcW w opt hD hn hG (fun i x H H' hi S y N Q h1 h2 => ?_) hd
  obtain ⟨rfl, e⟩ := y
  exact ⟨wipe1 _ _ _, hs i x H' hi S e N Q h1 h2⟩
/-- two names, new pairs told by f and g -/
theorem lcW2 (f g : Nat → Option V) (w : Walk J n G (YPair f g)) (opt : Nat → Option V) (hD : H1 D = none) (hn : n ≤ 1000000) (hG : ∀ H, Same H1 H → G H)
    (hs : ∀ k x y H, k < n → Same H1 H → f k = some x → g k = some y → ∀ (N : Hp → Prop) (Q : VK), (opt k = none → ∀ H3, Same H H3 → N H3) → (∀ y, opt k = some y → ∀ H4, Same H H4 → Q y H4) → tt (((wipe σ [i, j]).set i (some x)).set j (some y)) H fun b H3 => if b = true then te (((wipe σ [i, j]).set i (some x)).set j (some y)) H3 Q else N H3)
    (hd : ∀ H', Same H1 H' → H' D = some (.lst ((List.range n).filterMap opt)) → Qd H') :
    ∃ W : Nat → Nat → Hp → Prop, (∃ m, W 0 m (upd H1 D (.lst []))) ∧ ∀ k m H, W k m H →
      (J.stop k H ∧ Qd H) ∨ (J.go k H ∧ ∃ Nx : Hp → Prop, (∀ H', Nx H' → ∃ m', m' < m ∧ W (k + 1) m' H') ∧ ∀ x H', J.yld k H x H' → gTup K 2 (gCons (gName i) (gCons (gName j) gNil)) x (wipe σ [i, j]) H' fun σ2 H2 => wipe σ2 [i, j] = wipe σ [i, j] ∧ tt σ2 H2 fun b H3 =>
        if b = true then te σ2 H3 fun y H4 => ∃ acc, H4 D = some (.lst acc) ∧ acc.length < sizeLine ∧ Nx (upd H4 D (.lst (acc ++ [y]))) else Nx H3) := by
  refine lcW w opt hD hn hG (fun k x H H' hk S y N Q h1 h2 => ?_) hd
  obtain ⟨T, u, v, rfl, hT, rfl, e1, e2⟩ := y
  have S' : Same H (upd H T (.tup [u, v])) := Same.new hT
  refine ⟨T, _, rfl, SqT.of upd_same, rfl, _, _, rfl, _, _, rfl, rfl, wipe2 _ _, ?_⟩
  exact hs k u v _ hk (S.trans S') e1 e2 N Q (fun e H3 S3 => h1 e H3 (S'.trans S3)) (fun z e H4 S4 => h2 z e H4 (S'.trans S4))
end
theorem walk_rangeV {n : Nat} : Walk (Itr 0 n) n (fun _ => True) (fun i H x H' => H' = H ∧ (some (.int (i : Int)) : Option V) = some x) :=
  walk_range.mono (fun _ h => h) fun i H x H' hi _ y => ⟨y.1, by rw [y.2]; show some (V.int (i : Int)) = some (V.int (0 + (i : Int))); rw [Int.zero_add]⟩
end Lk

set_option Elab.async false
set_option linter.all false
set_option maxRecDepth 100000
set_option maxHeartbeats 4000000
namespace Lk
open PySem L2
abbrev s_is_tuple_below : Stmt := top 11
abbrev N_is_tuple_below : List Str := ["value", "limit"]
abbrev P_is_tuple_below : List Str := ["value", "limit"]
theorem sc_is_tuple_below : FnScope N_is_tuple_below P_is_tuple_below (defScope s_is_tuple_below) := ⟨rfl, rfl, rfl, by decide +kernel, rfl, by decide +kernel, by decide +kernel⟩
abbrev s_is_state_tuple : Stmt := top 16
abbrev N_is_state_tuple : List Str := ["machine", "value"]
abbrev P_is_state_tuple : List Str := ["machine", "value"]
theorem sc_is_state_tuple : FnScope N_is_state_tuple P_is_state_tuple (defScope s_is_state_tuple) := ⟨rfl, rfl, rfl, by decide +kernel, rfl, by decide +kernel, by decide +kernel⟩
abbrev s_is_division : Stmt := top 23
abbrev N_is_division : List Str := ["machine", "value"]
abbrev P_is_division : List Str := ["machine", "value"]
theorem sc_is_division : FnScope N_is_division P_is_division (defScope s_is_division) := ⟨rfl, rfl, rfl, by decide +kernel, rfl, by decide +kernel, by decide +kernel⟩
def isT : PyData → Bool
  | .tuple _ => true
  | _ => false
def tbD (n : Int) (d : PyData) : Bool := isT d && (itemsD d).all (isB n)
def stD (n : Int) (d : PyData) : Bool := tbD n d && decide (((itemsD d).length : Int) = n)
def spTB : Sp := fun vs H Q _ => ∃ (x : V) (d : PyData) (n : Int), vs = [x, .int n] ∧ Dv H x d ∧ (itemsD d).length ≤ 100000 ∧ ∀ H', Same H H' → Q (.bl (tbD n d)) H'
def spST (CM : Addr) : Sp := fun vs H Q _ => ∃ (m : Addr) (x : V) (d : PyData) (A : Int) (us : List (Addr × List Int)), vs = [.ref m, x] ∧ MachAt CM H m A us ∧ Dv H x d ∧ (itemsD d).length ≤ 100000 ∧ ∀ H', Same H H' → Q (.bl (stD (us.length : Int) d)) H'
def IsDiv (n : Nat) (d : PyData) : Prop := ∃ ns : List Int, d = .tuple (ns.map PyData.int) ∧ ns.length = n ∧ kerG ns = ns
def spDiv (CM : Addr) : Sp := fun vs H Q _ => ∃ (m : Addr) (x : V) (d : PyData) (A : Int) (us : List (Addr × List Int)), vs = [.ref m, x] ∧ MachAt CM H m A us ∧ Dv H x d ∧ (itemsD d).length ≤ 1000 ∧ ∀ H' b, Same H H' → (b = true ↔ IsDiv us.length d) → Q (.bl b) H'
theorem canon_range {ns : List Int} (c : kerG ns = ns) {z : Int} (h : z ∈ ns) : 0 ≤ z ∧ z < (ns.length : Int) := by
  obtain ⟨i, hi⟩ := List.mem_iff_getElem?.mp h
  obtain ⟨h1, h2, _⟩ := canon_at c hi
  have := (List.getElem?_eq_some_iff.mp hi).1
  omega
theorem stD_ints {n : Int} {d : PyData} (h : stD n d = true) : d = .tuple ((intsD d).map PyData.int) ∧ ((intsD d).length : Int) = n ∧ ∀ z ∈ intsD d, 0 ≤ z ∧ z < n := by
  unfold stD tbD at h
  rw [Bool.and_eq_true, Bool.and_eq_true] at h
  obtain ⟨⟨h1, h2⟩, h3⟩ := h
  have h3 := of_decide_eq_true h3
  cases d with
  | tuple ds =>
    have h2 : ds.all (isB n) = true := h2
    have h3 : ((ds.length : Nat) : Int) = n := h3
    refine ⟨?_, ?_, inB h2⟩
    · show PyData.tuple ds = .tuple ((ds.map intD).map PyData.int)
      congr 1
      rw [List.map_map]
      have : ∀ d ∈ ds, (PyData.int ∘ intD) d = d := fun d hd => by
        have hb := List.all_eq_true.mp h2 d hd
        cases d with
        | int i => rfl
        | none => cases hb
        | bool _ => cases hb
        | str _ => cases hb
        | list _ => cases hb
        | tuple _ => cases hb
        | dict _ => cases hb
      rw [List.map_congr_left this]
      simp
    · show (((ds.map intD).length : Nat) : Int) = n
      rw [List.length_map]
      exact h3
  | none => cases h1
  | bool _ => cases h1
  | int _ => cases h1
  | str _ => cases h1
  | list _ => cases h1
  | dict _ => cases h1
theorem stD_of {n : Nat} {ns : List Int} (hl : ns.length = n) (h : ∀ z ∈ ns, 0 ≤ z ∧ z < (n : Int)) : stD (n : Int) (.tuple (ns.map PyData.int)) = true := by
  show ((true && (ns.map PyData.int).all (isB (n : Int))) && decide ((((ns.map PyData.int).length : Nat) : Int) = (n : Int))) = true
  rw [isB_ints h, List.length_map, hl]
  simp
theorem intsD_tuple (ns : List Int) : intsD (.tuple (ns.map PyData.int)) = ns := intD_ints ns
theorem shaped_rowP (bs : List Int) : SeqAt.shaped (.tuple (bs.map PyData.int)) = true := by
  have h1 : PyData.canLay0 (.tuple (bs.map PyData.int)) = true := canLay_ints bs
  have h2 : PyData.depth (.tuple (bs.map PyData.int)) = PyData.depthAll (bs.map PyData.int) + 1 := rfl
  have h3 := depth_ints bs
  unfold SeqAt.shaped
  rw [h1, Bool.true_and]
  exact decide_eq_true (by omega)
section
variable {P : Program} {w : World} {K : PySem.W.Frag} {mg : Str → Option Value} {base : Heap} {CM : Addr}
theorem ok_tb {f fr : Addr} {fd fdr : FuncData} (A0 : Df K mg "is_tuple_below" s_is_tuple_below f fd P_is_tuple_below) (d_are_below : Df K mg "are_below" s_are_below fr fdr P_are_below) (G_are_below : FnOk P w K mg base CX0 4 fr fdr P_are_below spAre) (T : Txt mg) : FnOk P w K mg base CX0 5 f fd P_is_tuple_below spTB := by
  refine A0.F.ok sc_is_tuple_below (fun vs H Q E h => ?_) (fun cdv A outer s H vs Q E hr h => ?_)
  · obtain ⟨x, d, n, rfl, _⟩ := h
    rfl
  · obtain ⟨x, d, n, rfl, D, hz, k⟩ := h
    refine ⟨_, (pss_one (ps_ret (pe_and (pe_callB call_isi (by rfl) T.isinstance PyProof.Rows.boot_isinstance (pa_cons (pv 0) (pa_cons (pe_bltn (v := .ty "tuple") (by rfl) T.tuple (by decide +kernel) rfl) pa_nil))) (pe_one (pe_call G_are_below (hr.mono (by decide)) rfl d_are_below.g d_are_below.F.kp d_are_below.b .nil pass0 (pa_cons (pv 0) (pa_cons (pv 1) pa_nil))))))), ?_⟩
    have no : PySem.W.kitOne K (.type (tyD d)) (.type "tuple") = some false → isT d = false → tRet (tAndV (tCB (rIsi K) (tCons (tVar 0) (tCons (tC (.ty "tuple")) tNil))) (tCall spAre [] E0 (tCons (tVar 0) (tCons (tVar 1) tNil)))) { nx := fun _ H' => Q .non H', rt := Q } [some x, some (.int n)] H := by
      intro h1 h2
      refine ⟨_, rfl, x, _, _, _, false, rfl, .ty _, D.ty, h1, false, rfl, iteF ?_⟩
      have := k H (Same.refl _)
      unfold tbD at this
      rw [h2] at this
      exact this
    cases d with
    | none => exact no (kit_ty (a := "NoneType") (by decide +kernel)) rfl
    | bool b => exact no (kit_ty (a := "bool") (by decide +kernel)) rfl
    | int i => exact no (kit_ty (a := "int") (by decide +kernel)) rfl
    | str x => exact no (kit_ty (a := "str") (by decide +kernel)) rfl
    | list x => exact no (kit_ty (a := "list") (by decide +kernel)) rfl
    | dict x => exact no (kit_ty (a := "dict") (by decide +kernel)) rfl
    | tuple ds =>
      refine ⟨_, rfl, x, _, _, _, true, rfl, .ty _, D.ty, kit_ty (a := "tuple") (by decide +kernel), true, rfl, iteT ?_⟩
      exact ⟨_, rfl, _, rfl, x, _, n, rfl, D, rfl, hz, fun H' S' => k H' S'⟩
theorem ok_st {f ft : Addr} {fd fdt : FuncData} (A0 : Df K mg "is_state_tuple" s_is_state_tuple f fd P_is_state_tuple) (d_is_tuple_below : Df K mg "is_tuple_below" s_is_tuple_below ft fdt P_is_tuple_below) (G_is_tuple_below : FnOk P w K mg base CX0 5 ft fdt P_is_tuple_below spTB) (T : Txt mg) (TC : TxC K CM) : FnOk P w K mg base CX0 6 f fd P_is_state_tuple (spST CM) := by
  refine A0.F.ok sc_is_state_tuple (fun vs H Q E h => ?_) (fun cdv Ar outer s H vs Q E hr h => ?_)
  · obtain ⟨m, x, d, A, us, rfl, _⟩ := h
    rfl
  · obtain ⟨m, x, d, A, us, rfl, M, D, hz, k⟩ := h
    refine ⟨_, (pss_one (ps_ret (pe_and (pe_call G_is_tuple_below (hr.mono (by decide)) rfl d_is_tuple_below.g d_is_tuple_below.F.kp d_is_tuple_below.b .nil pass0 (pa_cons (pv 1) (pa_cons (pe_fld (pv 0) rfl) pa_nil))) (pe_one (pe_cmpR op_eq (pe_callB call_len_seq (by rfl) T.len PySem.boot_len (pa_cons (pv 1) pa_nil)) (pe_fld (pv 0) rfl) (nomark _)))))), ?_⟩
    obtain ⟨dx, t, h1, h2, h3⟩ := M
    refine ⟨_, rfl, _, rfl, m, CM, dx, _, _, rfl, h1, TC.cl, TC.n2, fld_n _ _ _, x, d, _, rfl, D, hz, fun H1 S1 => ⟨tbD (us.length : Int) d, rfl, ?_⟩⟩
    cases hb : tbD (us.length : Int) d with
    | false =>
      refine iteF ?_
      have := k H1 S1
      unfold stD at this
      rw [hb] at this
      exact this
    | true =>
      have ht : isT d = true := by
        unfold tbD at hb
        rw [Bool.and_eq_true] at hb
        exact hb.1
      cases D with
      | @tup a xs ds ha hx =>
        refine iteT ⟨_, rfl, a, xs, rfl, .inr (SqT.of (S1 _ _ ha)), _, rfl, m, CM, dx, _, _, rfl, S1 _ _ h1, TC.cl, TC.n2, fld_n _ _ _, rfl, ?_⟩
        have e : decide (V.int ((xs.length : Nat) : Int) = V.int (us.length : Int)) = decide (((ds.length : Nat) : Int) = (us.length : Int)) := by
          rw [hx.len]
          by_cases q : ((ds.length : Nat) : Int) = (us.length : Int)
          · rw [decide_eq_true q, q]
            exact decide_eq_true rfl
          · rw [decide_eq_false q]
            exact decide_eq_false fun z => q (by injection z)
        show Q (.bl (decide (V.int ((xs.length : Nat) : Int) = V.int (us.length : Int)))) H1
        rw [e]
        have := k H1 S1
        unfold stD at this
        rw [hb, Bool.true_and] at this
        exact this
      | non => cases ht
      | bl b => cases ht
      | int i => cases ht
      | str z => cases ht
      | lst _ _ => cases ht
      | dct _ => cases ht
theorem ok_div {f fs fk : Addr} {fd fds fdk : FuncData} (A0 : Df K mg "is_division" s_is_division f fd P_is_division) (d_is_state_tuple : Df K mg "is_state_tuple" s_is_state_tuple fs fds P_is_state_tuple) (G_is_state_tuple : FnOk P w K mg base CX0 6 fs fds P_is_state_tuple (spST CM)) (d_kernel_of : Df K mg "kernel_of" s_kernel_of fk fdk P_kernel_of) (G_kernel_of : FnOk P w K mg base CX0 1 fk fdk P_kernel_of (spKOf (SqT K))) : FnOk P w K mg base CX0 7 f fd P_is_division (spDiv CM) := by
  refine A0.F.ok sc_is_division (fun vs H Q E h => ?_) (fun cdv Ar outer s H vs Q E hr h => ?_)
  · obtain ⟨m, x, d, A, us, rfl, _⟩ := h
    rfl
  · obtain ⟨m, x, d, A, us, rfl, M, D, hz, k⟩ := h
    have hu : Ar.units + 3 + 64 < cLine := by have := hr.un; simp only [Around.deeper] at this; omega
    refine ⟨_, (pss_cons (ps_if (pt_not (pt_val (pe_call G_is_state_tuple (hr.mono (by decide)) rfl d_is_state_tuple.g d_is_state_tuple.F.kp d_is_state_tuple.b .nil pass0 (pa_cons (pv 0) (pa_cons (pv 1) pa_nil))))) (pss_one (ps_ret pe_bl)) pss_nil)
    (pss_one (ps_ret (pe_cmpR (op_eqD hu) (pv 1) (pe_call G_kernel_of (hr.mono (by decide)) rfl d_kernel_of.g d_kernel_of.F.kp d_kernel_of.b .nil pass0 (pa_cons (pv 1) pa_nil)) (nomark _))))), ?_⟩
    refine ⟨_, rfl, _, rfl, m, x, d, A, us, rfl, M, D, by omega, fun H1 S1 => ⟨stD (us.length : Int) d, rfl, ?_⟩⟩
    cases hb : stD (us.length : Int) d with
    | false =>
      refine iteT (k H1 false S1 ⟨fun e => (by cases e), ?_⟩)
      rintro ⟨ns, rfl, hl, c⟩
      rw [stD_of hl (fun z hzm => by rw [← hl]; exact canon_range c hzm)] at hb
      cases hb
    | true =>
      obtain ⟨e1, e2, e3⟩ := stD_ints hb
      obtain ⟨ns, en⟩ : ∃ ns, ns = intsD d := ⟨_, rfl⟩
      rw [← en] at e1 e2 e3
      subst e1
      cases D with
      | @tup a xs ds ha hx =>
        have ex : xs = ns.map V.int := by
          have := hx.ints (n := (us.length : Int)) (isB_ints e3)
          rw [this, intD_ints]
        subst ex
        refine iteF ⟨_, rfl, _, rfl, a, ns, rfl, SqT.of (S1 _ _ ha), by simp only [itemsD, List.length_map] at hz; exact hz, fun H2 q S2 hq hq2 => ?_⟩
        refine ⟨.tuple (ns.map PyData.int), .tuple ((kerL ns).map PyData.int), .tup (SqT.of (S2 _ _ (S1 _ _ ha))) (dpAll_ints _), .tup (SqT.of hq2) (dpAll_ints _), ?_, ?_, ?_⟩
        · exact shaped_rowP ns
        · exact shaped_rowP _
        · show Q (.bl (PyData.eqvAll (ns.map PyData.int) ((kerL ns).map PyData.int))) H2
          rw [eqv_ints]
          refine k H2 _ (S1.trans S2) ?_
          rw [decide_eq_true_iff]
          constructor
          · exact fun e => ⟨ns, rfl, by omega, e.symm⟩
          · rintro ⟨ms, e, _, c⟩
            have e : ns.map PyData.int = ms.map PyData.int := by injection e
            have e : ns = ms := by
              have := congrArg (List.map intD) e
              rw [intD_ints, intD_ints] at this
              exact this
            rw [e]
            exact c.symm
end
end Lk

set_option Elab.async false
set_option linter.all false
set_option maxRecDepth 100000
set_option maxHeartbeats 4000000
namespace Lk
open PySem L2
abbrev s_is_face : Stmt := top 25
abbrev N_is_face : List Str := ["machine", "value", "state", "entry", "least", "end", "other"]
abbrev P_is_face : List Str := ["machine", "value"]
theorem sc_is_face : FnScope N_is_face P_is_face (defScope s_is_face) := ⟨rfl, rfl, rfl, by decide +kernel, rfl, by decide +kernel, by decide +kernel⟩
def IsFace (rs : List (List Int)) (A : Nat) (d : PyData) : Prop := ∃ ns : List Int, d = .tuple (ns.map PyData.int) ∧ ns.length = rs.length ∧ kerG ns = ns ∧ FaceL rs A ns
def spFace (CM : Addr) : Sp := fun vs H Q _ => ∃ (m : Addr) (x : V) (d : PyData) (A : Int) (us : List (Addr × List Int)), vs = [.ref m, x] ∧ MachAt CM H m A us ∧ MOk A us ∧ Dv H x d ∧ (itemsD d).length ≤ 1000 ∧ ∀ H' b, Same H H' → (b = true ↔ IsFace (rsOf us) A.toNat d) → Q (.bl b) H'
theorem fm_some (f : Nat → V) (n : Nat) : (List.range n).filterMap (fun i => some (f i)) = (List.range n).map f := by
  induction n with
  | zero => rfl
  | succ n ih => rw [range_fm, ih, List.range_succ, List.map_append] <;> rfl
/-- one row of a machine -/
theorem row_get {us : List (Addr × List Int)} {A : Nat} (R : Rs A (rsOf us)) {s : Int} (s0 : 0 ≤ s) (s1 : s < (us.length : Int)) : ∃ u, us[s.toNat]? = some u ∧ u ∈ us ∧ u.2.length = A ∧ (rsOf us).getD s.toNat [] = u.2 ∧ ∀ x, x < A → u.2[x]? = some (stp (rsOf us) s (x : Int)) ∧ 0 ≤ stp (rsOf us) s (x : Int) ∧ stp (rsOf us) s (x : Int) < (us.length : Int) := by
  have hlt : s.toNat < us.length := by omega
  have hu := List.getElem?_eq_getElem hlt
  have hm := List.getElem_mem hlt
  have e := getD_of (d := []) (rsOf_get hu)
  have ru := (R.row _ (mem_of_get (rsOf_get hu))).1
  refine ⟨us[s.toNat], hu, hm, ru, e, fun x hx => ?_⟩
  have b := R.stp s0 (by rw [rsOf_len]; exact s1) (c := (x : Int)) (by omega) (by omega)
  rw [rsOf_len] at b
  refine ⟨?_, b⟩
  unfold stp
  rw [e, Int.toNat_natCast]
  rw [List.getElem?_eq_getElem (by rw [ru]; exact hx)]
  exact congrArg some (getD_of (List.getElem?_eq_getElem (by rw [ru]; exact hx))).symm
section
variable {P : Program} {w : World} {K : PySem.W.Frag} {mg : Str → Option Value} {base : Heap} {CM : Addr}
theorem ok_face {f fs : Addr} {fd fds : FuncData} (A0 : Df K mg "is_face" s_is_face f fd P_is_face) (d_is_division : Df K mg "is_division" s_is_division fs fds P_is_division) (G_is_division : FnOk P w K mg base CX0 7 fs fds P_is_division (spDiv CM)) (T : Txt mg) (zany : mg "any" = none) (TC : TxC K CM) : FnOk P w K mg base CX0 8 f fd P_is_face (spFace CM) := by
  refine A0.F.ok sc_is_face (fun vs H Q E h => ?_) (fun cdv Ar outer s H vs Q E hr h => ?_)
  · obtain ⟨m, x, d, A, us, rfl, _⟩ := h
    rfl
  · obtain ⟨m, x, d, A, us, rfl, M, O, D, hz, k⟩ := h
    have hu : Ar.units + 3 + 64 < cLine := by have := hr.un; simp only [Around.deeper] at this; omega
    refine ⟨_, (pss_cons (ps_if (pt_not (pt_val (pe_call G_is_division (hr.mono (by decide)) rfl d_is_division.g d_is_division.F.kp d_is_division.b .nil pass0 (pa_cons (pv 0) (pa_cons (pv 1) pa_nil))))) (pss_one (ps_ret pe_bl)) pss_nil)
    (pss_cons (ps_for PassesOwn.never rfl (pi_enumT (by rfl) T.enumerate (pa_cons (pe_fld (pv 0) rfl) pa_nil)) (pg_tup rfl (pgs_cons (pg_name (i := 2) sc_is_face.nd rfl (Or.inl rfl)) (pgs_cons (pg_name (i := 3) sc_is_face.nd rfl (Or.inl rfl)) pgs_nil)))
      (pss_cons (ps_set (i := 4) sc_is_face.nd rfl (Or.inl rfl) (pe_ix ix_tup (pe_fld (pv 0) rfl) (pe_ix ix_tup (pv 1) (pv 2) (fun _ _ => rfl)) (fun _ _ => rfl)))
      (pss_one (ps_if (pt_val (pe_callB (cr_any rfl) (by rfl) zany (by decide +kernel) (pa_cons (pe_lc (own := [("end", 5), ("other", 6)]) (g := gTup K 2 (gCons (gName 5) (gCons (gName 6) gNil))) (tt := tYes) (te := tOp rNe (tOp (rIxT K) (tVar 1) (tVar 5)) (tOp (rIxT K) (tVar 1) (tVar 6))) rfl sc_is_face.nd (RZ.pi_zipA (by rfl) T.zip (pa_cons (pv 3) (pa_cons (pv 4) pa_nil))) (blkOk_by (N := N_is_face) (sc := defScope s_is_face) (by decide +kernel)) (fun _ _ _ _ _ => (pg_tup rfl (pgs_cons (pg_name (i := 5) sc_is_face.nd rfl (Or.inl rfl)) (pgs_cons (pg_name (i := 6) sc_is_face.nd rfl (Or.inl rfl)) pgs_nil)))) (fun _ _ _ _ _ => pts_nil) (fun _ _ _ _ _ => (pe_cmpR op_ne (pe_ix ix_tup (pv 1) (pv 5) (fun _ _ => rfl)) (pe_ix ix_tup (pv 1) (pv 6) (fun _ _ => rfl)) (nomark _)))) pa_nil))) (pss_one (ps_ret pe_bl)) pss_nil))))
    (pss_one (ps_ret pe_bl)))), ?_⟩
    refine ⟨_, rfl, _, rfl, m, x, d, A, us, rfl, M, D, hz, fun H1 b S1 hb => ⟨b, rfl, ?_⟩⟩
    cases b with
    | false =>
      refine iteT (k H1 false S1 ⟨fun e => (by cases e), ?_⟩)
      rintro ⟨ns, e1, e2, e3, _⟩
      have := hb.mpr ⟨ns, e1, by rw [e2, rsOf_len], e3⟩
      cases this
    | true =>
      obtain ⟨ns, rfl, hl, cn⟩ := hb.mp rfl
      have lr : (rsOf us).length = us.length := rsOf_len us
      have M1 := M.same S1
      obtain ⟨dx, t, h1, h2, h3⟩ := M1
      have nb : ∀ z ∈ ns, 0 ≤ z ∧ z < (us.length : Int) := fun z hzm => by
        rw [← hl]
        exact canon_range cn hzm
      cases D with
      | @tup a xs ds ha hx =>
      have ex : xs = ns.map V.int := by
        have := hx.ints (n := (us.length : Int)) (isB_ints nb)
        rw [this, intD_ints]
      subst ex
      have ha1 := S1 _ _ ha
      have ci : ∀ z : Int, 0 ≤ z → z < us.length → (ns.map V.int)[z.toNat]? = some (V.int (ns.getD z.toNat 0)) := fun z z0 z1 => by
        rw [List.getElem?_map, item_of z0 (by omega) (0 : Int)]
        rfl
      have O' := O.rs
      have an : ((A.toNat : Nat) : Int) = A := by have := O.a0; omega
      have z1000 := O.n1
      have za := O.a1
      have wk := walk_enumT (K := K) (a := t) (xs := us.map fun u => V.ref u.1)
      rw [List.length_map] at wk
      refine iteF ⟨_, rfl, m, CM, dx, _, _, rfl, h1, TC.cl, TC.n3, fld_s _ _ _, t, _, rfl, SqT.of h2, ?_⟩
      refine for_it wk (fun i σ H' => ∃ v2 v3 v4 : Option V, σ = [some (.ref m), some (.ref a), v2, v3, v4, none, none] ∧ Same H1 H' ∧ ∀ s, s < i → ∀ x, x < A.toNat → faceAt (rsOf us) ns s x) ⟨none, none, none, rfl, Same.refl _, fun s hs => absurd hs (Nat.not_lt_zero s)⟩ (fun i σ H' _ p => by
        obtain ⟨_, _, _, _, S, _⟩ := p
        exact SqT.of (S _ _ h2)) ?_ ?_
      · rintro i v σ H2 H3 hi ⟨v2, v3, v4, rfl, S2, hp⟩ ⟨T1, x1, y1, rfl, hT, rfl, ex, ey⟩
        obtain rfl := (Option.some.inj ex).symm
        obtain ⟨u, hu1, hum, hul, hue, hux⟩ := row_get O' (s := (i : Int)) (by omega) (by omega)
        rw [Int.toNat_natCast] at hu1
        have ey : (us.map fun u => V.ref u.1)[i]? = some y1 := ey
        rw [List.getElem?_map, hu1] at ey
        obtain rfl : V.ref u.1 = y1 := Option.some.inj ey
        have S3 : Same H1 (upd H2 T1 (.tup [V.int (i : Int), V.ref u.1])) := S2.trans (Same.new hT)
        obtain ⟨c0, c1⟩ : 0 ≤ ns.getD i 0 ∧ ns.getD i 0 < (us.length : Int) := by
          refine nb _ ?_
          rw [List.getD_eq_getElem?_getD, List.getElem?_eq_getElem (by omega)]
          exact List.getElem_mem _
        obtain ⟨u', hu1', hum', hul', hue', hux'⟩ := row_get O' c0 c1
        refine ⟨T1, _, rfl, SqT.of upd_same, rfl, _, _, rfl, _, _, rfl, rfl, ?_⟩
        have hci : (ns.map V.int)[((i : Nat) : Int).toNat]? = some (V.int (ns.getD i 0)) := by
          have := ci (i : Int) (by omega) (by omega)
          rw [Int.toNat_natCast] at this
          exact this
        refine ⟨_, rfl, m, CM, dx, _, _, rfl, S3 _ _ h1, TC.cl, TC.n3, fld_s _ _ _, _, rfl, _, rfl, a, _, _, _, rfl, rfl, SqT.of (S3 _ _ ha1), atI_int (by omega) hci, t, _, _, V.ref u'.1, rfl, rfl, SqT.of (S3 _ _ h2), atI_int c0 (by rw [List.getElem?_map, hu1']; rfl), ?_⟩
        have hr1 := S3 _ _ (h3 u hum)
        have hr2 := S3 _ _ (h3 u' hum')
        have lz : (u.2.map V.int).length = (u'.2.map V.int).length := by rw [List.length_map, List.length_map, hul, hul']
        refine ⟨_, rfl, _, rfl, u.1, u'.1, _, _, rfl, .inr ⟨SqT.of hr1, SqT.of hr2, fun D hD => ?_⟩⟩
        have wz := walk_zipT (K := K) (a := u.1) (b := u'.1) lz
        refine lcW2 _ _ wz (fun k => some (.bl (!decide (V.int (ns.getD (stp (rsOf us) (i : Int) (k : Int)).toNat 0) = V.int (ns.getD (stp (rsOf us) (ns.getD i 0) (k : Int)).toNat 0))))) hD (by rw [List.length_map, hul]; omega) (fun H' S' => ⟨SqT.of (S' _ _ hr1), SqT.of (S' _ _ hr2)⟩) ?_ ?_
        · intro k x y H4 hk S4 e1 e2 N Q' _ kQ
          rw [List.length_map, hul] at hk
          obtain ⟨g1, g2, g3⟩ := hux k hk
          obtain ⟨f1, f2, f3⟩ := hux' k hk
          rw [List.getElem?_map, g1] at e1
          rw [List.getElem?_map, f1] at e2
          obtain rfl := Option.some.inj e1
          obtain rfl := Option.some.inj e2
          refine iteT (B := N H4) ⟨_, rfl, _, rfl, a, _, _, _, rfl, rfl, SqT.of (S4 _ _ (S3 _ _ ha1)), atI_int g2 (ci _ g2 g3), _, rfl, _, rfl, a, _, _, _, rfl, rfl, SqT.of (S4 _ _ (S3 _ _ ha1)), atI_int f2 (ci _ f2 f3), ?_⟩
          exact ⟨rfl, kQ _ rfl H4 (Same.refl _)⟩
        · intro H5 S5 e5
          rw [fm_some, List.length_map, hul] at e5
          refine ⟨D, (List.range A.toNat).map fun k : Nat => !decide (V.int (ns.getD (stp (rsOf us) (i : Int) (k : Int)).toNat 0) = V.int (ns.getD (stp (rsOf us) (ns.getD i 0) (k : Int)).toNat 0)), rfl, SqL.of (by rw [e5, List.map_map]; rfl), ?_⟩
          have S6 : Same H1 H5 := S3.trans S5
          by_cases hq : ∀ x, x < A.toNat → faceAt (rsOf us) ns i x
          · have an0 : ((List.range A.toNat).map fun k : Nat => !decide (V.int (ns.getD (stp (rsOf us) (i : Int) (k : Int)).toNat 0) = V.int (ns.getD (stp (rsOf us) (ns.getD i 0) (k : Int)).toNat 0))).any id = false := by
              rw [List.any_eq_false]
              intro b hb1
              obtain ⟨x, hx2, rfl⟩ := List.mem_map.mp hb1
              have := hq x (List.mem_range.mp hx2)
              unfold faceAt at this
              rw [this]
              simp
            refine ⟨_, rfl, ?_⟩
            rw [an0]
            refine iteF ⟨_, _, _, rfl, S6, fun s hs x hx2 => ?_⟩
            by_cases e : s = i
            · rw [e]
              exact hq x hx2
            · exact hp s (by omega) x hx2
          · have an1 : ((List.range A.toNat).map fun k : Nat => !decide (V.int (ns.getD (stp (rsOf us) (i : Int) (k : Int)).toNat 0) = V.int (ns.getD (stp (rsOf us) (ns.getD i 0) (k : Int)).toNat 0))).any id = true := by
              have ⟨x, hq⟩ := Classical.not_forall.mp hq
              have ⟨hx2, hq⟩ := Classical.not_imp.mp hq
              rw [List.any_eq_true]
              refine ⟨_, List.mem_map.mpr ⟨x, List.mem_range.mpr hx2, rfl⟩, ?_⟩
              rw [decide_eq_false fun e => hq (by injection e)]
              rfl
            refine ⟨_, rfl, ?_⟩
            rw [an1]
            refine iteT (k _ false (S1.trans S6) ⟨fun e => (by cases e), ?_⟩)
            rintro ⟨ms, e, _, _, F⟩
            have e : ns.map PyData.int = ms.map PyData.int := by injection e
            have e : ns = ms := by
              have := congrArg (List.map intD) e
              rw [intD_ints, intD_ints] at this
              exact this
            rw [← e] at F
            exact absurd (fun x hx2 => F i x (by omega) hx2) hq
      · rintro σ H2 ⟨v2, v3, v4, rfl, S2, hp⟩
        exact k _ true (S1.trans S2) ⟨fun _ => ⟨ns, rfl, by omega, cn, fun s x hs hx => hp s (by omega) x hx⟩, fun _ => rfl⟩
end
end Lk

set_option Elab.async false
set_option linter.all false
set_option maxRecDepth 100000
set_option maxHeartbeats 4000000
namespace Lk
open PySem L2
abbrev s_least_states : Stmt := top 19
abbrev N_least_states : List Str := ["division", "state", "least"]
abbrev P_least_states : List Str := ["division"]
theorem sc_least_states : FnScope N_least_states P_least_states (defScope s_least_states) := ⟨rfl, rfl, rfl, by decide +kernel, rfl, by decide +kernel, by decide +kernel⟩
abbrev s_machine_of_classes : Stmt := top 20
abbrev N_machine_of_classes : List Str := ["machine", "division", "leasts", "steps", "state", "end"]
abbrev P_machine_of_classes : List Str := ["machine", "division"]
theorem sc_machine_of_classes : FnScope N_machine_of_classes P_machine_of_classes (defScope s_machine_of_classes) := ⟨rfl, rfl, rfl, by decide +kernel, rfl, by decide +kernel, by decide +kernel⟩
abbrev s_face_machine : Stmt := top 26
abbrev N_face_machine : List Str := ["machine", "face"]
abbrev P_face_machine : List Str := ["machine", "face"]
theorem sc_face_machine : FnScope N_face_machine P_face_machine (defScope s_face_machine) := ⟨rfl, rfl, rfl, by decide +kernel, rfl, by decide +kernel, by decide +kernel⟩
abbrev s_refuse_no_face : Stmt := top 27
abbrev N_refuse_no_face : List Str := ["machine", "value", "at"]
abbrev P_refuse_no_face : List Str := ["machine", "value", "at"]
theorem sc_refuse_no_face : FnScope N_refuse_no_face P_refuse_no_face (defScope s_refuse_no_face) := ⟨rfl, rfl, rfl, by decide +kernel, rfl, by decide +kernel, by decide +kernel⟩
abbrev s_law_classes : Stmt := top 48
abbrev N_law_classes : List Str := ["steps", "face", "leasts", "state", "to", "least"]
abbrev P_law_classes : List Str := ["steps", "face"]
theorem sc_law_classes : FnScope N_law_classes P_law_classes (defScope s_law_classes) := ⟨rfl, rfl, rfl, by decide +kernel, rfl, by decide +kernel, by decide +kernel⟩
def optL (ns : List Int) (i : Nat) : Option Int := if ns.getD i 0 = (i : Int) then some (i : Int) else none
def leastL (ns : List Int) : List Int := (List.range ns.length).filterMap (optL ns)
/-- the row of a class -/
def clsRow (ns : List Int) (r : List Int) : List Int := r.map fun e => (((leastL ns).idxOf (ns.getD e.toNat 0) : Nat) : Int)
def clsR (rs : List (List Int)) (ns : List Int) : List (List Int) := (leastL ns).map fun l => clsRow ns (rs.getD l.toNat [])
theorem fm_int (g : Nat → Option Int) (n : Nat) : (List.range n).filterMap (fun i => (g i).map V.int) = ((List.range n).filterMap g).map V.int := by
  rw [List.map_filterMap]
theorem mem_leastL {ns : List Int} {l : Int} : l ∈ leastL ns ↔ 0 ≤ l ∧ l < (ns.length : Int) ∧ ns.getD l.toNat 0 = l := by
  unfold leastL
  rw [List.mem_filterMap]
  constructor
  · rintro ⟨i, hi, h⟩
    have hi := List.mem_range.mp hi
    unfold optL at h
    by_cases e : ns.getD i 0 = (i : Int)
    · rw [if_pos e] at h
      obtain rfl := Option.some.inj h
      exact ⟨by omega, by omega, by rw [Int.toNat_natCast]; exact e⟩
    · rw [if_neg e] at h
      cases h
  · rintro ⟨h0, h1, h2⟩
    refine ⟨l.toNat, List.mem_range.mpr (by omega), ?_⟩
    unfold optL
    rw [if_pos (by rw [h2]; omega)]
    congr 1
    omega
theorem canon_leastL {ns : List Int} (c : kerG ns = ns) {e : Int} (h0 : 0 ≤ e) (h1 : e < (ns.length : Int)) : ns.getD e.toNat 0 ∈ leastL ns := by
  have g := item_of h0 h1 (0 : Int)
  obtain ⟨c0, c1, c2⟩ := canon_at c g
  have lt := (List.getElem?_eq_some_iff.mp c2).1
  exact mem_leastL.mpr ⟨c0, by omega, getD_of c2⟩
theorem leastL_pos {ns : List Int} (c : kerG ns = ns) (h : 0 < ns.length) : 0 < (leastL ns).length := by
  have := canon_leastL c (e := 0) (by decide) (by omega)
  exact List.length_pos_of_mem this
theorem leastL_len (ns : List Int) : (leastL ns).length ≤ ns.length := by
  have := List.length_filterMap_le (optL ns) (List.range ns.length)
  rw [List.length_range] at this
  exact this
theorem clsR_rs {rs : List (List Int)} {A : Nat} {ns : List Int} (R : Rs A rs) (hl : ns.length = rs.length) (c : kerG ns = ns) : Rs A (clsR rs ns) := by
  have lc : (clsR rs ns).length = (leastL ns).length := List.length_map ..
  refine ⟨by rw [lc]; exact leastL_pos c (by rw [hl]; exact R.pos), fun r hr => ?_⟩
  unfold clsR at hr
  obtain ⟨l, hlm, rfl⟩ := List.mem_map.mp hr
  obtain ⟨l0, l1, l2⟩ := mem_leastL.mp hlm
  obtain ⟨r1, r2⟩ := R.row _ (mem_of_get (item_of l0 (by rw [← hl]; exact l1) ([] : List Int)))
  refine ⟨by unfold clsRow; rw [List.length_map, r1], fun z hz => ?_⟩
  unfold clsRow at hz
  obtain ⟨e, he, rfl⟩ := List.mem_map.mp hz
  obtain ⟨e0, e1⟩ := r2 e he
  have := List.idxOf_lt_length_of_mem (canon_leastL c e0 (by rw [hl]; exact e1))
  rw [lc]
  omega
theorem flat_ints : ∀ ys : List Int, (ys.map V.int).all flatV = true
  | [] => rfl
  | _ :: ys => flat_ints ys
/-- index of an int that is in a list of ints -/
theorem idx_read {K : PySem.W.Frag} {H : Hp} {p : Addr} {ys : List Int} {z : Int} {Q : VK} (h : SqL K H p (ys.map V.int)) (hm : z ∈ ys) (k : Q (.int ((ys.idxOf z : Nat) : Int)) H) : rIndex K (.ref p) [.int z] H Q := by
  obtain ⟨g1, g2⟩ := idxG hm
  refine ⟨p, _, .int z, ys.idxOf z, .int z, rfl, rfl, h, rfl, flat_ints ys, by rw [List.getElem?_map, g1]; rfl, decide_eq_true rfl, fun m z' hm2 hz => ?_, k⟩
  obtain ⟨y, hy, rfl⟩ := get_int hz
  exact decide_eq_false fun e => g2 m hm2 (by rw [hy, e])
def spLeasts (K : PySem.W.Frag) : Sp := fun vs H Q _ => ∃ (a : Addr) (ns : List Int), vs = [.ref a] ∧ SqT K H a (ns.map V.int) ∧ ns.length ≤ 1000 ∧ ∀ H' p, Same H H' → H p = none → H' p = some (.lst ((leastL ns).map V.int)) → Q (.ref p) H'
def spClasses (K : PySem.W.Frag) (CM : Addr) : Sp := fun vs H Q _ => ∃ (m a : Addr) (A : Int) (us : List (Addr × List Int)) (ns : List Int), vs = [.ref m, .ref a] ∧ MachAt CM H m A us ∧ MOk A us ∧ SqT K H a (ns.map V.int) ∧ ns.length = us.length ∧ kerG ns = ns ∧
  ∀ H' m' ws, Same H H' → MachAt CM H' m' A ws → rsOf ws = clsR (rsOf us) ns → Q (.ref m') H'
def spRefuse (CM CR : Addr) : Sp := fun vs H Q E => ∃ (m : Addr) (x : V) (d : PyData) (k A : Int) (us : List (Addr × List Int)), vs = [.ref m, x, .int k] ∧ MachAt CM H m A us ∧ MOk A us ∧ Dv H x d ∧ (itemsD d).length ≤ 1000 ∧
  (IsFace (rsOf us) A.toNat d → ∀ H', Same H H' → Q .non H') ∧ (¬ IsFace (rsOf us) A.toNat d → ∀ H' q, Same H H' → H' q = none → E (.ref CR) (some q) (upd H' q (.xd [(("at" : Str), .int k)])))
def spFaceM (CM CR : Addr) : Sp := fun vs H Q E => ∃ (m : Addr) (x : V) (d : PyData) (A : Int) (us : List (Addr × List Int)), vs = [.ref m, x] ∧ MachAt CM H m A us ∧ MOk A us ∧ Dv H x d ∧ (itemsD d).length ≤ 1000 ∧
  (∀ ns, d = .tuple (ns.map PyData.int) → IsFace (rsOf us) A.toNat d → ∀ H' m' ws, Same H H' → MachAt CM H' m' A ws → rsOf ws = clsR (rsOf us) ns → Q (.ref m') H') ∧ (¬ IsFace (rsOf us) A.toNat d → ∀ H' q, Same H H' → H' q = none → E (.ref CR) (some q) (upd H' q (.xd [(("at" : Str), .int 0)])))
section
variable {P : Program} {w : World} {K : PySem.W.Frag} {mg : Str → Option Value} {base : Heap} {CM CE CR fI : Addr} {fdI : FuncData}
theorem ok_leasts {f : Addr} {fd : FuncData} (A0 : Df K mg "least_states" s_least_states f fd P_least_states) (T : Txt mg) : FnOk P w K mg base CX0 1 f fd P_least_states (spLeasts K) := by
  refine A0.F.ok sc_least_states (fun vs H Q E h => ?_) (fun cdv Ar outer s H vs Q E hr h => ?_)
  · obtain ⟨a, ns, rfl, _⟩ := h
    rfl
  · obtain ⟨a, ns, rfl, ha, hz, k⟩ := h
    refine ⟨_, (pss_one (ps_ret (pe_lc (own := [("state", 1), ("least", 2)]) (g := gTup K 2 (gCons (gName 1) (gCons (gName 2) gNil))) (tt := tTest (tOp rEq (tVar 1) (tVar 2))) (te := tVar 1) rfl sc_least_states.nd (pi_enumT (by rfl) T.enumerate (pa_cons (pv 0) pa_nil)) (blkOk_by (N := N_least_states) (sc := defScope s_least_states) (by decide +kernel)) (fun _ _ _ _ _ => (pg_tup rfl (pgs_cons (pg_name (i := 1) sc_least_states.nd rfl (Or.inl rfl)) (pgs_cons (pg_name (i := 2) sc_least_states.nd rfl (Or.inl rfl)) pgs_nil)))) (fun _ _ _ _ _ => (pts_one (pt_cmpR op_eq (pv 1) (pv 2) (nomark _)))) (fun _ _ _ _ _ => (pv 1))))), ?_⟩
    have wk := walk_enumT (K := K) (a := a) (xs := ns.map V.int)
    rw [List.length_map] at wk
    refine ⟨_, rfl, a, _, rfl, ha, fun D hD => ?_⟩
    refine lcW2 _ _ wk (fun i => (optL ns i).map V.int) hD (by omega) (fun H' S => sameT S ha) (fun i x y H1 hi S e1 e2 N Q1 kN kQ => ?_) fun H' S e => ?_
    · obtain rfl := Option.some.inj e1
      obtain ⟨z, hz2, rfl⟩ := get_int e2
      have eg := getD_of (d := 0) hz2
      refine ⟨_, rfl, _, rfl, rfl, _, rfl, ?_⟩
      by_cases e : z = (i : Int)
      · rw [decide_eq_true (show V.int (i : Int) = V.int z by rw [e])]
        refine iteT ⟨_, rfl, kQ _ ?_ H1 (Same.refl _)⟩
        unfold optL
        rw [eg, if_pos e]
        rfl
      · rw [decide_eq_false (show ¬ V.int (i : Int) = V.int z from fun q => e (by injection q with q; exact q.symm))]
        refine iteF (kN ?_ H1 (Same.refl _))
        unfold optL
        rw [eg, if_neg e]
        rfl
    · rw [fm_int] at e
      exact k H' D S hD e
theorem ok_refuse {f ff fR : Addr} {fd fdf : FuncData} (A0 : Df K mg "_refuse_no_face" s_refuse_no_face f fd P_refuse_no_face) (d_is_face : Df K mg "is_face" s_is_face ff fdf P_is_face) (G_is_face : FnOk P w K mg base CX0 8 ff fdf P_is_face (spFace CM)) (TR : PySem.ErrX.ErrTxt K mg "Refused" "Refused.__init__" CR fR) : FnOk P w K mg base (L2.CX P w) 9 f fd P_refuse_no_face (spRefuse CM CR) := by
  refine A0.F.okX sc_refuse_no_face (fun vs H Q E h => ?_) (fun cdv Ar outer s H vs Q E hr h => ?_)
  · obtain ⟨m, x, d, k, A, us, rfl, _⟩ := h
    rfl
  · obtain ⟨m, x, d, k, A, us, rfl, M, O, D, hz, kT, kF⟩ := h
    have tk : Takes (cxOf (L2.CX P w) P w K mg base N_refuse_no_face "_refuse_no_face" (defScope s_refuse_no_face) f cdv Ar outer s H E) (fun cls d _ H => E cls d H) := takes_of rfl rfl rfl rfl
    refine ⟨_, (pss_one (ps_if (pt_not (pt_val (pe_call G_is_face (hr.mono (by decide)) rfl d_is_face.g d_is_face.F.kp d_is_face.b .nil pass0 (pa_cons (pv 0) (pa_cons (pv 1) pa_nil))))) (pss_one (ps_raiseLow rfl TR hr tk (pa_cons (pv 2) pa_nil) (by rfl))) pss_nil)), ?_⟩
    refine ⟨_, rfl, _, rfl, m, x, d, A, us, rfl, M, O, D, hz, fun H1 b S1 hb => ⟨b, rfl, ?_⟩⟩
    cases b with
    | false => exact iteT ⟨_, rfl, _, rfl, fun q hq => kF (fun F => by cases hb.mpr F) H1 q S1 hq⟩
    | true => exact iteF (kT (hb.mp rfl) H1 S1)
theorem ok_classes {f fl : Addr} {fd fdl : FuncData} (A0 : Df K mg "machine_of_classes" s_machine_of_classes f fd P_machine_of_classes) (d_least_states : Df K mg "least_states" s_least_states fl fdl P_least_states) (MC : McT K mg CM fI fdI) (GI : FnOk P w K mg base (L2.CX P w) 7 fI fdI P_Machine___init (spInit CM CE)) (T : Txt mg) (TC : TxC K CM) : FnOk P w K mg base (L2.CX P w) 9 f fd P_machine_of_classes (spClasses K CM) := by
  have G_least_states : FnOk P w K mg base CX0 1 fl fdl P_least_states (spLeasts K) := ok_leasts d_least_states T
  refine A0.F.okX sc_machine_of_classes (fun vs H Q E h => ?_) (fun cdv Ar outer s H vs Q E hr h => ?_)
  · obtain ⟨m, a, A, us, ns, rfl, _⟩ := h
    rfl
  · obtain ⟨m, a, A, us, ns, rfl, M, O, ha, hl, cn, k⟩ := h
    refine ⟨_, (pss_cons (ps_set (i := 2) sc_machine_of_classes.nd rfl (Or.inr rfl) (pe_call G_least_states (hr.mono (by decide)) rfl d_least_states.g d_least_states.F.kp d_least_states.b .nil pass0 (pa_cons (pv 1) pa_nil)))
    (pss_cons (ps_set (i := 3) sc_machine_of_classes.nd rfl (Or.inl rfl) (pe_lst pa_nil))
    (pss_cons (ps_for (passes_of rfl) rfl (pi_list (pv 2)) (pg_name (i := 4) sc_machine_of_classes.nd rfl (Or.inl rfl))
      (pss_one (ps_expr (pe_bm PySem.F.plainAttrs_list PySem.F.slot_list_append PySem.F.type_list_append mt_append (pv 3) (pa_cons (pe_lc (own := [("end", 5)]) (g := gName 5) (tt := tYes) (te := tBM K "list" (rIndex K) (tVar 2) (tCons (tOp (rIxT K) (tVar 1) (tVar 5)) tNil)) rfl sc_machine_of_classes.nd (pi_tup (pe_ix ix_tup (pe_fld (pv 0) rfl) (pv 4) (fun _ _ => rfl))) (blkOk_by (N := N_machine_of_classes) (sc := defScope s_machine_of_classes) (by decide +kernel)) (fun _ _ _ _ _ => (pg_name (i := 5) sc_machine_of_classes.nd rfl (Or.inl rfl))) (fun _ _ _ _ _ => pts_nil) (fun _ _ _ _ _ => (pe_bm PySem.F.plainAttrs_list PySem.F.slot_list_index PySem.F.type_list_index mt_index (pv 2) (pa_cons (pe_ix ix_tup (pv 1) (pv 5) (fun _ _ => rfl)) pa_nil)))) pa_nil)))))
    (pss_one (ps_ret (pe_make MC.mM GI (hr.mono (by decide)) rfl MC.g MC.b .nil (pass_never (P := P) (w := w)) (pa_cons (pe_fld (pv 0) rfl) (pa_cons (pv 3) pa_nil)))))))), ?_⟩
    obtain ⟨dx, t, h1, h2, h3⟩ := id M
    have lr : (rsOf us).length = us.length := rsOf_len us
    have O' := O.rs
    have n1 := O.n1
    have a1 := O.a1
    have a0 := O.a0
    have ea : ((A.toNat : Nat) : Int) = A := by omega
    refine ⟨_, rfl, a, ns, rfl, ha, by omega, fun H1 L S1 L0 hL => ⟨Nat.zero_le _, fun p hp => ?_⟩⟩
    have npL : L ≠ p := ne_of_none hL hp
    have SL : ∀ {H' : Hp}, Same H1 H' → SqL K H' L ((leastL ns).map V.int) := fun S => SqL.of (S _ _ hL)
    have n0 : H p = none := KP.free (S := fun _ => False) (KP.same S1) (fun x => x.elim) hp
    have wk := walk_list (K := K) (a := L) (xs := (leastL ns).map V.int)
    rw [List.length_map] at wk
    refine ⟨_, rfl, L, rfl, ⟨_, SL (Same.new hp)⟩, ?_⟩
    refine for_it wk (fun i σ H' => ∃ (ts : List (Addr × List Int)) (v4 : Option V), σ = [some (.ref m), some (.ref a), some (.ref L), some (.ref p), v4, none] ∧ Same H1 H' ∧ GridAt H' p ts ∧ (∀ t ∈ ts, t.1 ≠ p) ∧ rsOf ts = ((leastL ns).take i).map fun l => clsRow ns ((rsOf us).getD l.toNat [])) ⟨[], none, rfl, Same.new hp, ⟨upd_same, fun t ht => by cases ht⟩, (fun t ht => by cases ht), by rw [List.take_zero] <;> rfl⟩ (fun i σ H' _ ⟨_, _, _, S, _⟩ => SL S) ?_ ?_
    · rintro i x σ H2 H3 hi ⟨ts, v4, rfl, S2, G2, N2, e2⟩ ⟨rfl, hx⟩
      obtain ⟨l, hl2, rfl⟩ := get_int hx
      obtain ⟨l0, l1, l2⟩ := mem_leastL.mp (List.mem_of_getElem? hl2)
      obtain ⟨u, hu1, hum, hul, hue, hux⟩ := row_get O' l0 (by omega)
      have ll := leastL_len ns
      have tsl : ts.length = i := by
        have := congrArg List.length e2
        rw [rsOf_len, List.length_map, List.length_take] at this
        omega
      have hru := (S1.trans S2) _ _ (h3 u hum)
      refine ⟨_, rfl, .inl ⟨rfl, _, SqL.of G2.top⟩, _, rfl, m, CM, dx, _, _, rfl, (S1.trans S2) _ _ h1, TC.cl, TC.n3, fld_s _ _ _, _, rfl, t, _, _, V.ref u.1, rfl, rfl, SqT.of ((S1.trans S2) _ _ h2), atI_int l0 (by rw [List.getElem?_map, hu1]; rfl), u.1, rfl, ⟨_, SqT.of hru⟩, fun D hD => ?_⟩
      have wu := walk_tup (K := K) (a := u.1) (xs := u.2.map V.int)
      have hr0 := (O'.row _ (mem_of_get (rsOf_get hu1))).2
      rw [lr] at hr0
      refine lcW1 (fun i => (u.2.map V.int)[i]?) wu (fun k => (u.2.map fun e => V.int (((leastL ns).idxOf (ns.getD e.toNat 0) : Nat) : Int))[k]?) hD (by rw [List.length_map, hul]; omega) (fun H' S => SqT.of (S _ _ hru)) ?_ ?_
      · intro k x H4 hk S4 hx2 N Q' _ kQ
        obtain ⟨e, he, rfl⟩ := get_int hx2
        obtain ⟨e0, e1⟩ := hr0 e (List.mem_of_getElem? he)
        refine iteT (B := N H4) ⟨_, rfl, .inl ⟨rfl, _, SL (S2.trans S4)⟩, _, rfl, _, rfl, a, _, _, _, rfl, rfl, sameT ((S1.trans S2).trans S4) ha, atI_int e0 (show (ns.map V.int)[e.toNat]? = some (V.int (ns.getD e.toNat 0)) by rw [List.getElem?_map, item_of e0 (by omega) (0 : Int)]; rfl), ?_⟩
        refine idx_read (SL (S2.trans S4)) (canon_leastL cn e0 (by omega)) (kQ _ ?_ H4 (Same.refl _))
        rw [List.getElem?_map, he]
        rfl
      · intro H5 S5 e5
        have nDp : D ≠ p := fun e => by rw [e, G2.top] at hD; cases hD
        have ef : (List.range (u.2.map V.int).length).filterMap (fun k => (u.2.map fun e => V.int (((leastL ns).idxOf (ns.getD e.toNat 0) : Nat) : Int))[k]?) = (clsRow ns u.2).map V.int := by
          rw [List.length_map, fm_get _ (List.length_map ..)]
          unfold clsRow
          rw [List.map_map]
          rfl
        rw [ef] at e5
        refine ⟨p, _, _, rfl, rfl, S5 _ _ G2.top, by rw [List.length_map, tsl]; exact Nat.lt_of_le_of_lt (by omega : i ≤ 1000) (by decide), ?_⟩
        refine ⟨ts ++ [(D, clsRow ns u.2)], _, rfl, ((KP.same (S := fun _ => False) (S2.trans S5)).mut hp).toSame, (G2.same S5).snoc e5 nDp N2, fun t ht => ?_, ?_⟩
        · rcases List.mem_append.mp ht with q | q
          · exact N2 t q
          · rw [List.mem_singleton.mp q]
            exact nDp
        · rw [take_next hl2, List.map_append, ← e2, ← hue]
          exact List.map_append ..
    · rintro σ H2 ⟨ts, v4, rfl, S2, G2, N2, e2⟩
      rw [List.take_length] at e2
      have R2 : Rs A.toNat (rsOf ts) := by
        rw [e2]
        exact clsR_rs O' (by rw [lr]; exact hl) cn
      have tsl : ts.length ≤ 1000 := by
        have := congrArg List.length e2
        rw [rsOf_len, List.length_map] at this
        have := leastL_len ns
        omega
      refine ⟨_, rfl, m, CM, dx, _, _, rfl, (S1.trans S2) _ _ h1, TC.cl, TC.n1, fld_c _ _ _, _, rfl, ?_⟩
      have mk := make_rows (CM := CM) (CE := CE) (H1 := H2) (a := p) (A := A.toNat) (ts := ts) (Q := fun m' H' => Q (.ref m') H') (E := E0) (by omega) (by omega) G2 R2 tsl (fun H' m' ws S' _ M' e' => by
        rw [ea] at M'
        exact k H' m' ws ((S1.trans S2).trans S') M' (by rw [e', e2]; rfl))
      rw [ea] at mk
      exact mk
theorem ok_face_machine {f fr fm : Addr} {fd fdr fdm : FuncData} (A0 : Df K mg "face_machine" s_face_machine f fd P_face_machine) (d_refuse_no_face : Df K mg "_refuse_no_face" s_refuse_no_face fr fdr P_refuse_no_face) (G_refuse : FnOk P w K mg base (L2.CX P w) 9 fr fdr P_refuse_no_face (spRefuse CM CR)) (d_machine_of_classes : Df K mg "machine_of_classes" s_machine_of_classes fm fdm P_machine_of_classes) (G_classes : FnOk P w K mg base (L2.CX P w) 9 fm fdm P_machine_of_classes (spClasses K CM)) : FnOk P w K mg base (L2.CX P w) 10 f fd P_face_machine (spFaceM CM CR) := by
  refine A0.F.okX sc_face_machine (fun vs H Q E h => ?_) (fun cdv Ar outer s H vs Q E hr h => ?_)
  · obtain ⟨m, x, d, A, us, rfl, _⟩ := h
    rfl
  · obtain ⟨m, x, d, A, us, rfl, M, O, D, hz, kT, kF⟩ := h
    have tk : Takes (cxOf (L2.CX P w) P w K mg base N_face_machine "face_machine" (defScope s_face_machine) f cdv Ar outer s H E) (fun cls d _ H => E cls d H) := takes_of rfl rfl rfl rfl
    refine ⟨_, (pss_cons (ps_expr (pe_callS G_refuse (hr.mono (by decide)) rfl d_refuse_no_face.g d_refuse_no_face.F.kp d_refuse_no_face.b (fun σ => passAt tk σ) (pa_cons (pv 0) (pa_cons (pv 1) (pa_cons pe_int pa_nil)))))
    (pss_one (ps_ret (pe_callS G_classes (hr.mono (by decide)) rfl d_machine_of_classes.g d_machine_of_classes.F.kp d_machine_of_classes.b (fun σ => passAt tk σ) (pa_cons (pv 0) (pa_cons (pv 1) pa_nil)))))), ?_⟩
    refine ⟨_, rfl, _, rfl, m, x, d, 0, A, us, rfl, M, O, D, hz, fun F H1 S1 => ?_, fun F => kF F⟩
    obtain ⟨ns, e1, e2, e3, e4⟩ := id F
    have kT' := kT ns e1 F
    subst e1
    rw [rsOf_len] at e2
    have nb : ∀ z ∈ ns, 0 ≤ z ∧ z < (us.length : Int) := fun z hzm => by
      rw [← e2]
      exact canon_range e3 hzm
    cases D with
    | @tup a xs ds ha hx =>
      have ex : xs = ns.map V.int := by
        have := hx.ints (n := (us.length : Int)) (isB_ints nb)
        rw [this, intD_ints]
      subst ex
      exact ⟨_, rfl, _, rfl, m, a, A, us, ns, rfl, M.same S1, O, SqT.of (S1 _ _ ha), e2, e3, fun H' m' ws S' M' e' => kT' H' m' ws (S1.trans S') M' e'⟩
end
end Lk

set_option Elab.async false
set_option linter.all false
set_option maxRecDepth 100000
set_option maxHeartbeats 8000000
namespace Lk
open PySem L2
abbrev s_wider_face : Stmt := top 30
abbrev N_wider_face : List Str := ["machine", "face", "pairs", "waiting", "labels", "s", "t", "label"]
abbrev P_wider_face : List Str := ["machine", "face", "pairs"]
theorem sc_wider_face : FnScope N_wider_face P_wider_face (defScope s_wider_face) := ⟨rfl, rfl, rfl, by decide +kernel, rfl, by decide +kernel, by decide +kernel⟩
/-- pairs of ints in tuples -/
def PairsAt (H : Hp) (ts : List Addr) (W : List (Int × Int)) : Prop := ts.length = W.length ∧ ∀ (j : Nat) (t : Addr) (p : Int × Int), ts[j]? = some t → W[j]? = some p → H t = some (.tup [.int p.1, .int p.2])
theorem PairsAt.same {H H' : Hp} {ts : List Addr} {W : List (Int × Int)} (x : PairsAt H ts W) (S : Same H H') : PairsAt H' ts W := ⟨x.1, fun j t p h1 h2 => S _ _ (x.2 j t p h1 h2)⟩
theorem PairsAt.app {H : Hp} {ts ts' : List Addr} {W W' : List (Int × Int)} (x : PairsAt H ts W) (y : PairsAt H ts' W') : PairsAt H (ts ++ ts') (W ++ W') := by
  refine ⟨by rw [List.length_append, List.length_append, x.1, y.1], fun j t p h1 h2 => ?_⟩
  by_cases hj : j < ts.length
  · rw [List.getElem?_append_left hj] at h1
    rw [List.getElem?_append_left (by rw [← x.1]; exact hj)] at h2
    exact x.2 j t p h1 h2
  · rw [List.getElem?_append_right (by omega)] at h1
    rw [List.getElem?_append_right (by rw [← x.1]; omega), ← x.1] at h2
    exact y.2 _ t p h1 h2
theorem PairsAt.left {H : Hp} {ts ts' : List Addr} {W W' : List (Int × Int)} (x : PairsAt H (ts ++ ts') (W ++ W')) (h : ts.length = W.length) : PairsAt H ts W :=
  ⟨h, fun j t p h1 h2 => x.2 j t p (by rw [List.getElem?_append_left (List.getElem?_eq_some_iff.mp h1).1]; exact h1) (by rw [List.getElem?_append_left (List.getElem?_eq_some_iff.mp h2).1]; exact h2)⟩
def InP (n : Nat) (ps : List (Int × Int)) : Prop := ∀ p ∈ ps, (0 ≤ p.1 ∧ p.1 < (n : Int)) ∧ (0 ≤ p.2 ∧ p.2 < (n : Int))
def spWider (K : PySem.W.Frag) (CM : Addr) : Sp := fun vs H Q _ => ∃ (m a b : Addr) (A : Int) (us : List (Addr × List Int)) (L : List Int) (W ps : List (Int × Int)) (ts : List Addr), vs = [.ref m, .ref a, .ref b] ∧ MachAt CM H m A us ∧ MOk A us ∧ H a = some (.tup (L.map V.int)) ∧ (SqL K H b (ts.map V.ref) ∨ SqT K H b (ts.map V.ref)) ∧ PairsAt H ts W ∧ W.length ≤ 1000 ∧ Cl (rsOf us) A.toNat ps L W ∧ InP us.length ps ∧
  ∀ H' t R, Same H H' → H' t = some (.tup (R.map V.int)) → LeastFace (rsOf us) A.toNat ps R → Q (.ref t) H'
theorem two_last {ts : List Addr} {W : List (Int × Int)} (h : ts.length = W.length) (ne : ts ≠ []) : ∃ ts0 t0 W0 p0, ts = ts0 ++ [t0] ∧ W = W0 ++ [p0] ∧ ts0.length = W0.length := by
  have neW : W ≠ [] := fun e => ne (List.length_eq_zero_iff.mp (by rw [h, e]; rfl))
  refine ⟨ts.dropLast, ts.getLast ne, W.dropLast, W.getLast neW, (List.dropLast_concat_getLast ne).symm, (List.dropLast_concat_getLast neW).symm, ?_⟩
  rw [List.length_dropLast, List.length_dropLast, h]
section
variable {P : Program} {w : World} {K : PySem.W.Frag} {mg : Str → Option Value} {base : Heap} {CM : Addr}
theorem ok_wider {f fk : Addr} {fd fdk : FuncData} (A0 : Df K mg "wider_face" s_wider_face f fd P_wider_face) (d_kernel_of : Df K mg "kernel_of" s_kernel_of fk fdk P_kernel_of) (G_kernel_of : FnOk P w K mg base CX0 1 fk fdk P_kernel_of (spKOf (SqT K))) (T : Txt mg) (TC : TxC K CM) : FnOk P w K mg base CX0 2 f fd P_wider_face (spWider K CM) := by
  refine A0.F.ok sc_wider_face (fun vs H Q E h => ?_) (fun cdv Ar outer s H vs Q E hr h => ?_)
  · obtain ⟨m, a, b, A, us, L, W, ps, ts, rfl, _⟩ := h
    rfl
  · obtain ⟨m, a, b, A, us, L, W, ps, ts, rfl, M, O, ha, hb, pr, hW, cl, ip, k⟩ := h
    refine ⟨_, (pss_cons (ps_set (i := 3) sc_wider_face.nd rfl (Or.inl rfl) (pe_callTy call_list_of (by rfl) T.list (by decide +kernel) (pa_cons (pv 2) pa_nil)))
    (pss_cons (ps_set (i := 4) sc_wider_face.nd rfl (Or.inr rfl) (pv 1))
    (pss_cons (ps_while PassesOwn.never (pt_truth (pv 3) (fun _ => rfl))
      (pss_cons (ps_asg (pe_bm0 PySem.F.plainAttrs_list PySem.F.slot_list_pop PySem.F.type_list_pop mt_pop (pv 3)) (pg_tup rfl (pgs_cons (pg_name (i := 5) sc_wider_face.nd rfl (Or.inr rfl)) (pgs_cons (pg_name (i := 6) sc_wider_face.nd rfl (Or.inr rfl)) pgs_nil))))
      (pss_one (ps_if (pt_cmpR op_ne (pe_ix ix_tup (pv 4) (pv 5) (fun _ _ => rfl)) (pe_ix ix_tup (pv 4) (pv 6) (fun _ _ => rfl)) (nomark _)) (pss_cons (ps_set (i := 4) sc_wider_face.nd rfl (Or.inr rfl) (pe_tupleOf (by rfl) T.tuple (pe_lc (own := [("label", 7)]) (g := gName 7) (tt := tYes) (te := tIf (tTest (tOp rEq (tVar 7) (tOp (rIxT K) (tVar 4) (tVar 6)))) (tOp (rIxT K) (tVar 4) (tVar 5)) (tVar 7)) rfl sc_wider_face.nd (pi_tup (pv 4)) (blkOk_by (N := N_wider_face) (sc := defScope s_wider_face) (by decide +kernel)) (fun _ _ _ _ _ => (pg_name (i := 7) sc_wider_face.nd rfl (Or.inl rfl))) (fun _ _ _ _ _ => pts_nil) (fun _ _ _ _ _ => (pe_ifExp (pt_cmpR op_eq (pv 7) (pe_ix ix_tup (pv 4) (pv 6) (fun _ _ => rfl)) (nomark _)) (pe_ix ix_tup (pv 4) (pv 5) (fun _ _ => rfl)) (pv 7))))))
        (pss_one (ps_expr (pe_bm PySem.F.plainAttrs_list PySem.F.slot_list_extend PySem.F.type_list_extend mt_extend (pv 3) (pa_cons (pe_listZip rfl (pa_cons (pe_ix ix_tup (pe_fld (pv 0) rfl) (pv 5) (fun _ _ => rfl)) (pa_cons (pe_ix ix_tup (pe_fld (pv 0) rfl) (pv 6) (fun _ _ => rfl)) pa_nil)) (by rfl) T.list (by rfl) T.zip) pa_nil))))) pss_nil))))
    (pss_one (ps_ret (pe_call G_kernel_of (hr.mono (by decide)) rfl d_kernel_of.g d_kernel_of.F.kp d_kernel_of.b .nil pass0 (pa_cons (pv 4) pa_nil))))))), ?_⟩
    obtain ⟨dx, t, h1, h2, h3⟩ := id M
    have lr : (rsOf us).length = us.length := rsOf_len us
    have O' := O.rs
    have n1 := O.n1
    have a1 := O.a1
    refine ⟨_, rfl, b, _, rfl, hb, fun q hq => ⟨_, rfl, ?_⟩⟩
    have Sq0 : Same H (upd H q (.lst (ts.map V.ref))) := Same.new hq
    refine ⟨fun μ σ H' => ∃ (L : List Int) (W : List (Int × Int)) (ts : List Addr) (la : Addr) (v5 v6 : Option V), σ = [some (.ref m), some (.ref a), some (.ref b), some (.ref q), some (.ref la), v5, v6, none] ∧ Same H H' ∧ H' q = some (.lst (ts.map V.ref)) ∧ H' la = some (.tup (L.map V.int)) ∧ la ≠ q ∧ (∀ t ∈ ts, t ≠ q) ∧ PairsAt H' ts W ∧ Cl (rsOf us) A.toNat ps L W ∧ μ = W.length + A.toNat * cnt us.length L ∧ μ ≤ 1000 + 1000 * 1000,
      ⟨_, L, W, ts, a, none, none, rfl, Sq0, upd_same, Sq0 _ _ ha, ne_of_none ha hq, fun t ht e => ?_, pr.same Sq0, cl, rfl, ?_⟩, ?_⟩
    · obtain ⟨j, hj⟩ := List.mem_iff_getElem?.mp ht
      obtain ⟨p0, hp0⟩ : ∃ p0, W[j]? = some p0 := ⟨_, List.getElem?_eq_getElem (by rw [← pr.1]; exact (List.getElem?_eq_some_iff.mp hj).1)⟩
      have := pr.2 j t p0 hj hp0
      rw [e, hq] at this
      cases this
    · have c1 := cnt_le us.length L
      have : A.toNat * cnt us.length L ≤ 1000 * 1000 := Nat.mul_le_mul (by omega) (by omega)
      omega
    · rintro μ σ H1 ⟨L1, W1, ts1, la, v5, v6, rfl, S1, hq1, hla, nla, nts, pr1, cl1, rfl, hμ⟩
      by_cases hn : ts1 = []
      · subst hn
        have eW : W1 = [] := List.length_eq_zero_iff.mp (by rw [← pr1.1]; rfl)
        subst eW
        refine ⟨_, rfl, false, .inl ⟨_, SqL.of hq1, rfl⟩, iteF ?_⟩
        have ll := cl1.len
        refine ⟨_, rfl, la, L1, rfl, SqT.of hla, by omega, fun H2 r S2 hr0 hr2 => ?_⟩
        exact k H2 r (kerL L1) (S1.trans S2) hr2 (cl1.done O' (by rw [lr]; exact ip))
      · obtain ⟨ts0, t0, W0, ⟨ps1, pt⟩, rfl, rfl, hl0⟩ := two_last pr1.1 hn
        have ht0 := pr1.2 ts0.length t0 (ps1, pt) (by simp) (by rw [hl0]; simp)
        have pr0 : PairsAt H1 ts0 W0 := pr1.left hl0
        have nt0 := nts t0 (List.mem_append_right _ List.mem_cons_self)
        have ll := cl1.len
        obtain ⟨⟨s0, s1⟩, u0, u1⟩ := cl1.wr (ps1, pt) (List.mem_append_right _ List.mem_cons_self)
        have s0 : 0 ≤ ps1 := s0
        have s1 : ps1 < ((rsOf us).length : Int) := s1
        have u0 : 0 ≤ pt := u0
        have u1 : pt < ((rsOf us).length : Int) := u1
        rw [lr] at s1 u1
        have gs := item_of (xs := L1) s0 (by omega) (0 : Int)
        have gt := item_of (xs := L1) u0 (by omega) (0 : Int)
        have gsV : (L1.map V.int)[ps1.toNat]? = some (V.int (L1.getD ps1.toNat 0)) := by rw [List.getElem?_map, gs]; rfl
        have gtV : (L1.map V.int)[pt.toNat]? = some (V.int (L1.getD pt.toNat 0)) := by rw [List.getElem?_map, gt]; rfl
        refine ⟨_, rfl, true, .inl ⟨_, SqL.of hq1, by simp⟩, iteT ⟨fun σ' H' => ∃ μ', μ' < (W0 ++ [(ps1, pt)]).length + A.toNat * cnt us.length L1 ∧ ∃ (L : List Int) (W : List (Int × Int)) (ts : List Addr) (la : Addr) (v5 v6 : Option V), σ' = [some (.ref m), some (.ref a), some (.ref b), some (.ref q), some (.ref la), v5, v6, none] ∧ Same H H' ∧ H' q = some (.lst (ts.map V.ref)) ∧ H' la = some (.tup (L.map V.int)) ∧ la ≠ q ∧ (∀ t ∈ ts, t ≠ q) ∧ PairsAt H' ts W ∧ Cl (rsOf us) A.toNat ps L W ∧ μ' = W.length + A.toNat * cnt us.length L ∧ μ' ≤ 1000 + 1000 * 1000, fun _ _ h => h, ?_⟩⟩
        have S2 : Same H (upd H1 q (.lst (ts0.map V.ref))) := ((KP.same (S := fun _ => False) S1).mut hq).toSame
        have up2 : ∀ {c : Addr} {o : HO}, c ≠ q → H1 c = some o → upd H1 q (.lst (ts0.map V.ref)) c = some o := fun n e => (upd_ne n).trans e
        have pr2 : PairsAt (upd H1 q (.lst (ts0.map V.ref))) ts0 W0 := ⟨hl0, fun j t p e1 e2 => up2 (nts t (List.mem_append_left _ (List.mem_of_getElem? e1))) (pr0.2 j t p e1 e2)⟩
        refine ⟨_, rfl, .inl ⟨rfl, _, SqL.of hq1⟩, q, _, .ref t0, rfl, rfl, hq1, by simp, ?_⟩
        have edl : ((ts0 ++ [t0]).map V.ref).dropLast = ts0.map V.ref := by simp
        rw [edl]
        refine ⟨t0, _, rfl, SqT.of (up2 nt0 ht0), rfl, _, _, rfl, _, _, rfl, rfl, ?_⟩
        refine ⟨_, rfl, _, rfl, la, _, _, _, rfl, rfl, SqT.of (up2 nla hla), atI_int s0 gsV, _, rfl, _, rfl, la, _, _, _, rfl, rfl, SqT.of (up2 nla hla), atI_int u0 gtV, rfl, _, rfl, ?_⟩
        have lw : (W0 ++ [(ps1, pt)]).length = W0.length + 1 := by simp
        by_cases he : L1.getD ps1.toNat 0 = L1.getD pt.toNat 0
        · rw [decide_eq_true (show V.int (L1.getD ps1.toNat 0) = V.int (L1.getD pt.toNat 0) by rw [he])]
          refine iteF ⟨W0.length + A.toNat * cnt us.length L1, by omega, L1, W0, ts0, la, _, _, rfl, S2, upd_same, up2 nla hla, nla, fun t ht => nts t (List.mem_append_left _ ht), pr2, cl1.skip ?_, rfl, by omega⟩
          show L1[ps1.toNat]? = L1[pt.toNat]?
          rw [gs, gt, he]
        · rw [decide_eq_false (show ¬ V.int (L1.getD ps1.toNat 0) = V.int (L1.getD pt.toNat 0) from fun e => he (by injection e))]
          obtain ⟨a', ea'⟩ : ∃ z, z = L1.getD ps1.toNat 0 := ⟨_, rfl⟩
          obtain ⟨b', eb'⟩ : ∃ z, z = L1.getD pt.toNat 0 := ⟨_, rfl⟩
          rw [← ea'] at gs gsV he
          rw [← eb'] at gt gtV he
          refine iteT ⟨_, rfl, la, rfl, ⟨_, SqT.of (up2 nla hla)⟩, fun D hD => ?_⟩
          have wu := walk_tup (K := K) (a := la) (xs := L1.map V.int)
          rw [List.length_map] at wu
          have hD1 : D ≠ q := fun e => by rw [e, upd_same] at hD; cases hD
          refine lcW1 (fun i => (L1.map V.int)[i]?) wu (fun k => ((mrg L1 a' b').map V.int)[k]?) hD (by omega) (fun H' S => SqT.of (S _ _ (up2 nla hla))) ?_ ?_
          · intro k0 x H4 hk S4 hx N Q' _ kQ
            obtain ⟨l, hl2, rfl⟩ := get_int hx
            have em : ((mrg L1 a' b').map V.int)[k0]? = some (V.int (if l = b' then a' else l)) := by
              unfold mrg
              rw [List.getElem?_map, List.getElem?_map, hl2]
              rfl
            have hla4 := S4 _ _ (up2 nla hla)
            refine iteT (B := N H4) ⟨_, rfl, _, rfl, _, rfl, la, _, _, _, rfl, rfl, SqT.of hla4, atI_int u0 gtV, rfl, _, rfl, ?_⟩
            by_cases e : l = b'
            · rw [decide_eq_true (show V.int l = V.int b' by rw [e])]
              refine iteT ⟨_, rfl, _, rfl, la, _, _, _, rfl, rfl, SqT.of hla4, atI_int s0 gsV, ?_⟩
              refine kQ _ ?_ H4 (Same.refl _)
              rw [em, if_pos e]
            · rw [decide_eq_false (show ¬ V.int l = V.int b' from fun q => e (by injection q))]
              refine iteF ⟨_, rfl, ?_⟩
              refine kQ _ ?_ H4 (Same.refl _)
              rw [em, if_neg e]
          · intro H5 S5 e5
            have elm : ((mrg L1 a' b').map V.int).length = L1.length := by
              unfold mrg
              rw [List.length_map, List.length_map]
            rw [fm_get _ elm] at e5
            refine .inl ⟨D, _, rfl, SqL.of e5, fun r hr0 => ?_⟩
            have hq5 : H5 q = some (.lst (ts0.map V.ref)) := S5 _ _ upd_same
            have nrq : r ≠ q := (ne_of_none hq5 hr0).symm
            have S6 : Same (upd H1 q (.lst (ts0.map V.ref))) (upd H5 r (.tup ((mrg L1 a' b').map V.int))) := S5.trans (Same.new hr0)
            obtain ⟨u, hu1, hum, hul, hue, hux⟩ := row_get O' s0 s1
            obtain ⟨v, hv1, hvm, hvl, hve, hvx⟩ := row_get O' u0 u1
            have S7 := S2.trans S6
            have hru := S7 _ _ (h3 u hum)
            have hrv := S7 _ _ (h3 v hvm)
            have a0 := O.a0
            refine ⟨_, rfl, .inl ⟨rfl, _, SqL.of (S6 _ _ upd_same)⟩, ?_⟩
            refine ⟨_, rfl, m, CM, dx, _, _, rfl, S7 _ _ h1, TC.cl, TC.n3, fld_s _ _ _, _, rfl, t, _, _, V.ref u.1, rfl, rfl, SqT.of (S7 _ _ h2), atI_int s0 (by rw [List.getElem?_map, hu1]; rfl), ?_⟩
            refine ⟨_, rfl, m, CM, dx, _, _, rfl, S7 _ _ h1, TC.cl, TC.n3, fld_s _ _ _, _, rfl, t, _, _, V.ref v.1, rfl, rfl, SqT.of (S7 _ _ h2), atI_int u0 (by rw [List.getElem?_map, hv1]; rfl), ?_⟩
            refine ⟨u.1, v.1, u.2.map V.int, v.2.map V.int, rfl, SqT.of hru, SqT.of hrv, by rw [List.length_map, List.length_map, hul, hvl], by rw [List.length_map, hul]; omega, fun H8 z zs S8 hz0 hzs nd nz lz hz8 hp8 => ?_⟩
            have nzq : z ≠ q := (ne_of_none (S6 _ _ upd_same) hz0).symm
            refine ⟨q, z, _, _, rfl, rfl, S8 _ _ (S6 _ _ upd_same), hz8, ?_, ?_⟩
            · rw [List.length_map, List.length_map, lz, List.length_map, hul, hl0]
              exact Nat.le_trans (by omega : _ ≤ 3000000) (by decide)
            · have cm := cnt_mrg (n := us.length) gs gt he (by rw [← lr]; exact cl1.rng)
              have lzs : (zipS (rsOf us) ps1 pt).length = A.toNat := zipS_len O' s0 (by omega) u0 (by omega)
              have q1 : A.toNat * cnt us.length (mrg L1 a' b') + A.toNat ≤ A.toNat * cnt us.length L1 := by
                have : A.toNat * (cnt us.length (mrg L1 a' b') + 1) ≤ A.toNat * cnt us.length L1 := Nat.mul_le_mul_left _ cm
                rw [Nat.mul_add, Nat.mul_one] at this
                exact this
              have lw2 : (W0 ++ zipS (rsOf us) ps1 pt).length = W0.length + A.toNat := by rw [List.length_append, lzs]
              refine ⟨(W0 ++ zipS (rsOf us) ps1 pt).length + A.toNat * cnt us.length (mrg L1 a' b'), by omega, mrg L1 a' b', W0 ++ zipS (rsOf us) ps1 pt, ts0 ++ zs, r, _, _, rfl, ((KP.same (S := fun _ => False) (S7.trans S8)).mut hq).toSame, ?_, (upd_ne nrq).trans (S8 _ _ upd_same), nrq, fun t ht => ?_, ?_, cl1.join O' gs gt, rfl, by omega⟩
              · rw [upd_same, List.map_append]
              · rcases List.mem_append.mp ht with q2 | q2
                · exact nts t (List.mem_append_left _ q2)
                · exact (ne_of_none (S6 _ _ upd_same) (hzs t q2)).symm
              · refine PairsAt.app ⟨hl0, fun j t p e1 e2 => (upd_ne (nts t (List.mem_append_left _ (List.mem_of_getElem? e1)))).trans (S8 _ _ (S6 _ _ (pr2.2 j t p e1 e2)))⟩ ⟨by rw [lz, lzs, List.length_map, hul], fun j t p e1 e2 => ?_⟩
                have n3 : t ≠ q := (ne_of_none (S6 _ _ upd_same) (hzs t (List.mem_of_getElem? e1))).symm
                unfold zipS at e2
                rw [hue, hve] at e2
                obtain ⟨f1, f2⟩ := List.getElem?_zip_eq_some.mp e2
                exact (upd_ne n3).trans (hp8 j t _ _ e1 (by rw [List.getElem?_map, f1]; rfl) (by rw [List.getElem?_map, f2]; rfl))
end
end Lk

set_option Elab.async false
set_option linter.all false
set_option maxRecDepth 100000
set_option maxHeartbeats 8000000
namespace Lk
open PySem L2
abbrev s_closed_face : Stmt := top 28
abbrev N_closed_face : List Str := ["machine", "pairs", "index", "entry"]
abbrev P_closed_face : List Str := ["machine", "pairs"]
theorem sc_closed_face : FnScope N_closed_face P_closed_face (defScope s_closed_face) := ⟨rfl, rfl, rfl, by decide +kernel, rfl, by decide +kernel, by decide +kernel⟩
abbrev s_is_pair : Stmt := top 29
abbrev N_is_pair : List Str := ["machine", "value", "state"]
abbrev P_is_pair : List Str := ["machine", "value"]
theorem sc_is_pair : FnScope N_is_pair P_is_pair (defScope s_is_pair) := ⟨rfl, rfl, rfl, by decide +kernel, rfl, by decide +kernel, by decide +kernel⟩
abbrev s_common_face : Stmt := top 31
abbrev N_common_face : List Str := ["machine", "one", "other"]
abbrev P_common_face : List Str := ["machine", "one", "other"]
theorem sc_common_face : FnScope N_common_face P_common_face (defScope s_common_face) := ⟨rfl, rfl, rfl, by decide +kernel, rfl, by decide +kernel, by decide +kernel⟩
def pairD (n : Int) (d : PyData) : Bool := isT d && (decide (((itemsD d).length : Int) = 2) && (itemsD d).all (isB n))
def spPair (CM : Addr) : Sp := fun vs H Q _ => ∃ (m : Addr) (x : V) (d : PyData) (A : Int) (us : List (Addr × List Int)), vs = [.ref m, x] ∧ MachAt CM H m A us ∧ Dv H x d ∧ (itemsD d).length ≤ 100000 ∧ ∀ H', Same H H' → Q (.bl (pairD (us.length : Int) d)) H'
def badP (n : Int) : List PyData → Nat → Option Nat
  | [], _ => none
  | e :: r, i => if pairD n e = true then badP n r (i + 1) else some i
def clRes (n : Int) (d : PyData) : Option Nat := if isS d = false then some 0 else badP n (itemsD d) 0
def pairOf : PyData → Int × Int
  | .tuple [.int s, .int t] => (s, t)
  | _ => (0, 0)
def spClosed (CM CQ : Addr) : Sp := fun vs H Q E => ∃ (m : Addr) (x : V) (d : PyData) (A : Int) (us : List (Addr × List Int)), vs = [.ref m, x] ∧ MachAt CM H m A us ∧ MOk A us ∧ Dv H x d ∧ (itemsD d).length ≤ 1000 ∧ (∀ e ∈ itemsD d, (itemsD e).length ≤ 1000) ∧
  match clRes (us.length : Int) d with
  | some k => ∀ H' q, Same H H' → H' q = none → E (.ref CQ) (some q) (upd H' q (.xd [(("at" : Str), .int (k : Int))]))
  | none => ∀ H' t R, Same H H' → H' t = some (.tup (R.map V.int)) → LeastFace (rsOf us) A.toNat ((itemsD d).map pairOf) R → Q (.ref t) H'
def spCommon (CM CR : Addr) : Sp := fun vs H Q E => ∃ (m : Addr) (x y : V) (d e : PyData) (A : Int) (us : List (Addr × List Int)), vs = [.ref m, x, y] ∧ MachAt CM H m A us ∧ MOk A us ∧ Dv H x d ∧ Dv H y e ∧ (itemsD d).length ≤ 1000 ∧ (itemsD e).length ≤ 1000 ∧
  (¬ IsFace (rsOf us) A.toNat d → ∀ H' q, Same H H' → H' q = none → E (.ref CR) (some q) (upd H' q (.xd [(("at" : Str), .int 0)]))) ∧
  (IsFace (rsOf us) A.toNat d → ¬ IsFace (rsOf us) A.toNat e → ∀ H' q, Same H H' → H' q = none → E (.ref CR) (some q) (upd H' q (.xd [(("at" : Str), .int 1)]))) ∧
  (IsFace (rsOf us) A.toNat d → IsFace (rsOf us) A.toNat e → ∀ H' t, Same H H' → H' t = some (.tup ((comL [intsD d, intsD e] us.length).map V.int)) → Q (.ref t) H')
theorem badP_cons {n : Int} {e : PyData} {r : List PyData} {i : Nat} : badP n (e :: r) i = if pairD n e = true then badP n r (i + 1) else some i := rfl
theorem badP_none {n : Int} : ∀ {ds : List PyData} {i : Nat}, badP n ds i = none → ∀ e ∈ ds, pairD n e = true
  | [], _, _, e, h => by cases h
  | d :: ds, i, hb, e, h => by
    rw [badP_cons] at hb
    by_cases q : pairD n d = true
    · rw [if_pos q] at hb
      rcases List.mem_cons.mp h with rfl | h
      · exact q
      · exact badP_none hb e h
    · rw [if_neg q] at hb
      cases hb
theorem pair_read {n : Int} {e : PyData} (h : pairD n e = true) : ∃ s t : Int, e = .tuple [.int s, .int t] ∧ (0 ≤ s ∧ s < n) ∧ (0 ≤ t ∧ t < n) := by
  unfold pairD at h
  rw [Bool.and_eq_true, Bool.and_eq_true] at h
  obtain ⟨h1, h2, h3⟩ := h
  have h2 := of_decide_eq_true h2
  cases e with
  | tuple ds =>
    have h2 : ((ds.length : Nat) : Int) = 2 := h2
    have h3 : ds.all (isB n) = true := h3
    match ds, h2, h3 with
    | [a, b], _, h3 =>
      have ha := List.all_eq_true.mp h3 a List.mem_cons_self
      have hb := List.all_eq_true.mp h3 b (List.mem_cons_of_mem _ List.mem_cons_self)
      have one : ∀ c : PyData, isB n c = true → ∃ s : Int, c = .int s ∧ 0 ≤ s ∧ s < n := fun c hc => by
        cases c with
        | int s =>
          have hc : (decide (0 ≤ s) && decide (s < n)) = true := hc
          rw [Bool.and_eq_true, decide_eq_true_iff, decide_eq_true_iff] at hc
          exact ⟨s, rfl, hc⟩
        | none => cases hc
        | bool _ => cases hc
        | str _ => cases hc
        | list _ => cases hc
        | tuple _ => cases hc
        | dict _ => cases hc
      obtain ⟨s, rfl, hs⟩ := one a ha
      obtain ⟨t, rfl, ht⟩ := one b hb
      exact ⟨s, t, rfl, hs, ht⟩
    | [], h2, _ => simp at h2
    | [_], h2, _ => simp at h2
    | _ :: _ :: _ :: _, h2, _ =>
      simp at h2
      omega
  | none => cases h1
  | bool _ => cases h1
  | int _ => cases h1
  | str _ => cases h1
  | list _ => cases h1
  | dict _ => cases h1
theorem pairs_read {H : Hp} {n : Int} : ∀ {xs : List V} {ds : List PyData}, DvAll H xs ds → (∀ e ∈ ds, pairD n e = true) → ∃ ts : List Addr, xs = ts.map V.ref ∧ PairsAt H ts (ds.map pairOf)
  | _, _, .nil, _ => ⟨[], rfl, rfl, fun j t p h => by simp at h⟩
  | _, _, .cons (v := v) (d := d) (ds := ds) h t, hb => by
    obtain ⟨s, u, rfl, _, _⟩ := pair_read (hb d List.mem_cons_self)
    obtain ⟨ts, rfl, e1, e2⟩ := pairs_read t fun e he => hb e (List.mem_cons_of_mem _ he)
    cases h with
    | @tup a xs _ ha hx =>
      cases hx with
      | cons g1 gr =>
        cases gr with
        | cons g2 gr =>
          cases gr
          cases g1
          cases g2
          refine ⟨a :: ts, rfl, by simp [e1], fun j t p h1 h2 => ?_⟩
          cases j with
          | zero =>
            obtain rfl := Option.some.inj h1
            obtain rfl := Option.some.inj h2
            exact ha
          | succ j => exact e2 j t p h1 h2
theorem ker_map {α β : Type} [BEq α] [LawfulBEq α] [BEq β] [LawfulBEq β] (f : α → β) (hf : ∀ a b, f a = f b → a = b) (xs : List α) : kerG (xs.map f) = kerG xs := by
  refine ker_ext (List.length_map ..) fun i j hi hj => ?_
  rw [List.length_map] at hi hj
  unfold sm
  rw [List.getElem?_map, List.getElem?_map, List.getElem?_eq_getElem hi, List.getElem?_eq_getElem hj]
  exact ⟨fun h => congrArg some (hf _ _ (Option.some.inj h)), fun h => by rw [Option.some.inj h]⟩
section
variable {P : Program} {w : World} {K : PySem.W.Frag} {mg : Str → Option Value} {base : Heap} {CM CR CQ : Addr}
theorem ok_pair {f fs : Addr} {fd fds : FuncData} (A0 : Df K mg "_is_pair" s_is_pair f fd P_is_pair) (d_is_state : Df K mg "is_state" s_is_state fs fds P_is_state) (G_is_state : FnOk P w K mg base CX0 4 fs fds P_is_state (spState CM)) (T : Txt mg) : FnOk P w K mg base CX0 5 f fd P_is_pair (spPair CM) := by
  refine A0.F.ok sc_is_pair (fun vs H Q E h => ?_) (fun cdv Ar outer s H vs Q E hr h => ?_)
  · obtain ⟨m, x, d, A, us, rfl, _⟩ := h
    rfl
  · obtain ⟨m, x, d, A, us, rfl, M, D, hz, k⟩ := h
    refine ⟨_, (pss_one (ps_ret (pe_and (pe_callB call_isi (by rfl) T.isinstance PyProof.Rows.boot_isinstance (pa_cons (pv 1) (pa_cons (pe_bltn (v := .ty "tuple") (by rfl) T.tuple (by decide +kernel) rfl) pa_nil))) (pe_and (pe_cmpR op_eq (pe_callB call_len_seq (by rfl) T.len PySem.boot_len (pa_cons (pv 1) pa_nil)) pe_int (nomark _)) (pe_one (pe_callB (cr_all rfl) (by rfl) T.all PyProof.Rows.boot_all (pa_cons (pe_lc (own := [("state", 2)]) (g := gName 2) (tt := tYes) (te := tCall (spState CM) [] E0 (tCons (tVar 0) (tCons (tVar 2) tNil))) rfl sc_is_pair.nd (pi_tup (pv 1)) (blkOk_by (N := N_is_pair) (sc := defScope s_is_pair) (by decide +kernel)) (fun _ _ _ _ _ => (pg_name (i := 2) sc_is_pair.nd rfl (Or.inl rfl))) (fun _ _ _ _ _ => pts_nil) (fun _ _ _ _ _ => (pe_call G_is_state (hr.mono (by decide)) rfl d_is_state.g d_is_state.F.kp d_is_state.b .nil pass0 (pa_cons (pv 0) (pa_cons (pv 2) pa_nil))))) pa_nil))))))), ?_⟩
    have no : PySem.W.kitOne K (.type (tyD d)) (.type "tuple") = some false → isT d = false → tRet (tAndV (tCB (rIsi K) (tCons (tVar 1) (tCons (tC (.ty "tuple")) tNil))) (tAndV (tOp rEq (tCB (rLn K) (tCons (tVar 1) tNil)) (tC (.int 2))) (tCB (rAll K) (tCons (tLc (iTup K (tVar 1)) (gName 2) tYes (tCall (spState CM) [] E0 (tCons (tVar 0) (tCons (tVar 2) tNil))) [2]) tNil)))) { nx := fun _ H' => Q .non H', rt := Q } [some (.ref m), some x, none] H := by
      intro h1 h2
      refine ⟨_, rfl, x, _, _, _, false, rfl, .ty _, D.ty, h1, false, rfl, iteF ?_⟩
      have := k H (Same.refl _)
      unfold pairD at this
      rw [h2] at this
      exact this
    cases d with
    | none => exact no (kit_ty (a := "NoneType") (by decide +kernel)) rfl
    | bool b => exact no (kit_ty (a := "bool") (by decide +kernel)) rfl
    | int i => exact no (kit_ty (a := "int") (by decide +kernel)) rfl
    | str x => exact no (kit_ty (a := "str") (by decide +kernel)) rfl
    | list x => exact no (kit_ty (a := "list") (by decide +kernel)) rfl
    | dict x => exact no (kit_ty (a := "dict") (by decide +kernel)) rfl
    | tuple ds =>
      refine ⟨_, rfl, x, _, _, _, true, rfl, .ty _, D.ty, kit_ty (a := "tuple") (by decide +kernel), true, rfl, iteT ?_⟩
      cases D with
      | @tup a xs _ ha hx =>
        refine ⟨_, rfl, a, xs, rfl, .inr (SqT.of ha), rfl, _, rfl, ?_⟩
        have e : (decide (V.int ((xs.length : Nat) : Int) = V.int 2)) = decide ((ds.length : Int) = 2) := by
          rw [hx.len]
          by_cases q : (ds.length : Int) = 2
          · rw [decide_eq_true q, q]
            exact decide_eq_true rfl
          · rw [decide_eq_false q]
            exact decide_eq_false fun z => q (by injection z)
        show (if decide (V.int ((xs.length : Nat) : Int) = V.int 2) = true then _ else _)
        rw [e]
        have kk : ∀ H', Same H H' → Q (.bl (decide ((ds.length : Int) = 2) && ds.all (isB (us.length : Int)))) H' := fun H' S' => k H' S'
        by_cases q : (ds.length : Int) = 2
        · rw [decide_eq_true q] at kk ⊢
          refine iteT ⟨_, rfl, a, rfl, ⟨_, SqT.of ha⟩, fun p hp => ?_⟩
          refine lcPT (K := K) (fun x => V.bl (isBV (us.length : Int) x)) hp (by rw [hx.len]; exact Nat.le_trans hz (by decide)) (SqT.of ha) (fun y hy H2 S2 Q2 kQ => ?_) (fun H2 e2 S2 => ?_)
          · obtain ⟨i, hi⟩ := List.getElem?_of_mem hy
            obtain ⟨ed, _, De⟩ := hx.get hi
            refine ⟨_, rfl, _, rfl, m, y, ed, A, us, rfl, M.same S2, De.same S2, fun H3 S3 => ?_⟩
            rw [← De.isBV]
            exact kQ _ S3
          · refine ⟨p, xs.map (isBV (us.length : Int)), rfl, SqL.of ?_, ?_⟩
            · rw [e2, List.map_map]
              rfl
            · rw [hx.all]
              exact kk _ S2
        · rw [decide_eq_false q] at kk ⊢
          exact iteF (kk _ (Same.refl _))
theorem ok_closed {f fq fp fw fr fQ : Addr} {fd fdq fdp fdw fdr : FuncData} (A0 : Df K mg "closed_face" s_closed_face f fd P_closed_face) (d_is_sequence : Df K mg "is_sequence" s_is_sequence fq fdq P_is_sequence) (d_is_pair : Df K mg "_is_pair" s_is_pair fp fdp P_is_pair) (G_is_pair : FnOk P w K mg base CX0 5 fp fdp P_is_pair (spPair CM)) (d_wider_face : Df K mg "wider_face" s_wider_face fw fdw P_wider_face) (G_wider_face : FnOk P w K mg base CX0 2 fw fdw P_wider_face (spWider K CM)) (d_resting : Df K mg "resting" s_resting fr fdr P_resting) (G_resting : FnOk P w K mg base CX0 1 fr fdr P_resting (spResting CM)) (T : Txt mg) (TQ : PySem.ErrX.ErrTxt K mg "InvalidQuestion" "InvalidQuestion.__init__" CQ fQ) : FnOk P w K mg base (L2.CX P w) 6 f fd P_closed_face (spClosed CM CQ) := by
  have G_is_sequence : FnOk P w K mg base CX0 1 fq fdq P_is_sequence (spT1 isS) := ok_sequence d_is_sequence T
  refine A0.F.okX sc_closed_face (fun vs H Q E h => ?_) (fun cdv Ar outer s H vs Q E hr h => ?_)
  · obtain ⟨m, x, d, A, us, rfl, _⟩ := h
    rfl
  · obtain ⟨m, x, d, A, us, rfl, M, O, D, hz, hz2, kR⟩ := h
    have tk : Takes (cxOf (L2.CX P w) P w K mg base N_closed_face "closed_face" (defScope s_closed_face) f cdv Ar outer s H E) (fun cls d _ H => E cls d H) := takes_of rfl rfl rfl rfl
    have no : isS d = false → ∀ H1, Same H H1 → ∀ q, H1 q = none → E (.ref CQ) (some q) (upd H1 q (.xd [(("at" : Str), .int 0)])) := fun e H1 S1 q hq => by
      unfold clRes at kR
      rw [if_pos e] at kR
      exact kR H1 q S1 hq
    have step : ∀ (xs : List V) (ds : List PyData) (i : Nat) (y : V), itemsD d = ds → isS d = true → DvAll H xs ds → xs[i]? = some y → (∀ j e, j < i → ds[j]? = some e → pairD (us.length : Int) e = true) → ∃ e, ds[i]? = some e ∧ Dv H y e ∧ (itemsD e).length ≤ 1000 ∧ (pairD (us.length : Int) e = false → ∀ H1, Same H H1 → ∀ q, H1 q = none → E (.ref CQ) (some q) (upd H1 q (.xd [(("at" : Str), .int (i : Int))]))) := fun xs ds i y e1 e2 hx hy hp => by
      obtain ⟨e, he, De⟩ := hx.get hy
      refine ⟨e, he, De, hz2 e (by rw [e1]; exact mem_of_get he), fun hb H1 S1 q hq => ?_⟩
      have eb : badP (us.length : Int) ds 0 = some i := by
        have gen : ∀ (l : List PyData) (b j : Nat), l[j]? = some e → (∀ j' e', j' < j → l[j']? = some e' → pairD (us.length : Int) e' = true) → badP (us.length : Int) l b = some (b + j) := by
          intro l
          induction l with
          | nil => intro b j h; simp at h
          | cons d l ih =>
            intro b j h hp
            rw [badP_cons]
            cases j with
            | zero =>
              obtain rfl := Option.some.inj h
              rw [if_neg (by rw [hb]; decide)]
              rfl
            | succ j =>
              rw [if_pos (hp 0 d (by omega) rfl), ih (b + 1) j h fun j' e' hj he => hp (j' + 1) e' (by omega) he]
              congr 1
              omega
        rw [gen ds 0 i he hp, Nat.zero_add]
      unfold clRes at kR
      rw [if_neg (by rw [e2]; decide), e1, eb] at kR
      exact kR H1 q S1 hq
    have fin : ∀ (a : Addr) (xs : List V) (ds : List PyData) (H1 : Hp) (v2 v3 : Option V), x = .ref a → (H a = some (.lst xs) ∨ H a = some (.tup xs)) → itemsD d = ds → isS d = true → DvAll H xs ds → (∀ e ∈ ds, pairD (us.length : Int) e = true) → Same H H1 →
        tSeq (tRet (tCall (spWider K CM) [] E0 (tCons (tVar 0) (tCons (tCall (spResting CM) [] E0 (tCons (tVar 0) tNil)) (tCons (tVar 1) tNil))))) tNext { nx := fun _ H' => Q .non H', rt := Q } [some (.ref m), some (.ref a), v2, v3] H1 := by
      intro a xs ds H1 v2 v3 ex ha e1 e2 hx hp S1
      obtain ⟨ts, rfl, pr⟩ := pairs_read hx hp
      have lr : (rsOf us).length = us.length := rsOf_len us
      have ip : InP us.length (ds.map pairOf) := fun p hpm => by
        obtain ⟨e, he, rfl⟩ := List.mem_map.mp hpm
        obtain ⟨s', t', rfl, hs, ht⟩ := pair_read (hp e he)
        exact ⟨hs, ht⟩
      have eb : badP (us.length : Int) ds 0 = none := by
        have gen : ∀ (l : List PyData) (b : Nat), (∀ e ∈ l, pairD (us.length : Int) e = true) → badP (us.length : Int) l b = none := by
          intro l
          induction l with
          | nil => intro b _; rfl
          | cons d l ih =>
            intro b h
            rw [badP_cons, if_pos (h d List.mem_cons_self)]
            exact ih _ fun e he => h e (List.mem_cons_of_mem _ he)
        exact gen ds 0 hp
      unfold clRes at kR
      rw [if_neg (by rw [e2]; decide), e1, eb] at kR
      refine ⟨_, rfl, _, rfl, m, A, us, rfl, M.same S1, O.n1, fun t ht => ⟨_, rfl, ?_⟩⟩
      have S2 : Same H (upd H1 t (.tup ((rng us.length).map V.int))) := S1.trans (Same.new ht)
      refine ⟨m, t, a, A, us, rngI us.length, ds.map pairOf, ds.map pairOf, ts, rfl, M.same S2, O, upd_same, ?_, pr.same S2, by rw [List.length_map, ← e1]; exact hz, ?_, ip, fun H' t' R S' ht' F => kR H' t' R (S2.trans S') ht' F⟩
      · rcases ha with ha | ha
        · exact .inl (SqL.of (S2 _ _ ha))
        · exact .inr (SqT.of (S2 _ _ ha))
      · have := Cl.start (rs := rsOf us) (A := A.toNat) (ps := ds.map pairOf) (by rw [lr]; exact ip)
        rw [lr] at this
        exact this
    by_cases hs : isS d = false
    · refine ⟨_, (pss_cons (ps_if (pt_not (pt_val (pe_call G_is_sequence (hr.mono (by decide)) rfl d_is_sequence.g d_is_sequence.F.kp d_is_sequence.b .nil pass0 (pa_cons (pv 1) pa_nil)))) (pss_one (ps_raiseLow rfl TQ hr tk (pa_cons pe_int pa_nil) (by rfl))) pss_nil)
    (pss_cons (ps_for (passes_of rfl) rfl (pi_enum (by rfl) T.enumerate (pa_cons (pv 1) pa_nil)) (pg_tup rfl (pgs_cons (pg_name (i := 2) sc_closed_face.nd rfl (Or.inl rfl)) (pgs_cons (pg_name (i := 3) sc_closed_face.nd rfl (Or.inl rfl)) pgs_nil)))
      (pss_one (ps_if (pt_not (pt_val (pe_call G_is_pair (hr.mono (by decide)) rfl d_is_pair.g d_is_pair.F.kp d_is_pair.b .nil pass0 (pa_cons (pv 0) (pa_cons (pv 3) pa_nil))))) (pss_one (ps_raiseLow rfl TQ hr tk (pa_cons (pv 2) pa_nil) (by rfl))) pss_nil)))
    (pss_one (ps_ret (pe_call G_wider_face (hr.mono (by decide)) rfl d_wider_face.g d_wider_face.F.kp d_wider_face.b .nil pass0 (pa_cons (pv 0) (pa_cons (pe_call G_resting (hr.mono (by decide)) rfl d_resting.g d_resting.F.kp d_resting.b .nil pass0 (pa_cons (pv 0) pa_nil)) (pa_cons (pv 1) pa_nil)))))))), ?_⟩
      exact ⟨_, rfl, x, d, rfl, D, fun H1 S1 => ⟨isS d, rfl, by rw [hs]; exact iteT ⟨_, rfl, fun q hq => no hs H1 S1 q hq⟩⟩⟩
    cases D with
    | @lst a xs ds ha hx =>
      refine ⟨_, (pss_cons (ps_if (pt_not (pt_val (pe_call G_is_sequence (hr.mono (by decide)) rfl d_is_sequence.g d_is_sequence.F.kp d_is_sequence.b .nil pass0 (pa_cons (pv 1) pa_nil)))) (pss_one (ps_raiseLow rfl TQ hr tk (pa_cons pe_int pa_nil) (by rfl))) pss_nil)
    (pss_cons (ps_for (passes_of rfl) rfl (pi_enum (by rfl) T.enumerate (pa_cons (pv 1) pa_nil)) (pg_tup rfl (pgs_cons (pg_name (i := 2) sc_closed_face.nd rfl (Or.inl rfl)) (pgs_cons (pg_name (i := 3) sc_closed_face.nd rfl (Or.inl rfl)) pgs_nil)))
      (pss_one (ps_if (pt_not (pt_val (pe_call G_is_pair (hr.mono (by decide)) rfl d_is_pair.g d_is_pair.F.kp d_is_pair.b .nil pass0 (pa_cons (pv 0) (pa_cons (pv 3) pa_nil))))) (pss_one (ps_raiseLow rfl TQ hr tk (pa_cons (pv 2) pa_nil) (by rfl))) pss_nil)))
    (pss_one (ps_ret (pe_call G_wider_face (hr.mono (by decide)) rfl d_wider_face.g d_wider_face.F.kp d_wider_face.b .nil pass0 (pa_cons (pv 0) (pa_cons (pe_call G_resting (hr.mono (by decide)) rfl d_resting.g d_resting.F.kp d_resting.b .nil pass0 (pa_cons (pv 0) pa_nil)) (pa_cons (pv 1) pa_nil)))))))), ?_⟩
      refine ⟨_, rfl, _, _, rfl, .lst ha hx, fun H1 S1 => ⟨true, rfl, iteF ?_⟩⟩
      refine ⟨_, rfl, a, xs, rfl, SqL.of (S1 _ _ ha), ?_⟩
      refine for_enumL (fun i σ H' => ∃ v2 v3 : Option V, σ = [some (.ref m), some (.ref a), v2, v3] ∧ Same H H' ∧ ∀ j e, j < i → ds[j]? = some e → pairD (us.length : Int) e = true) ⟨none, none, rfl, S1, fun j e h => absurd h (Nat.not_lt_zero j)⟩ (fun i σ H' ⟨_, _, _, S, _⟩ => SqL.of (S _ _ ha)) ?_ ?_
      · rintro i y σ H2 Tp hy ⟨v2, v3, rfl, S2, hp⟩ hT
        have S3 : Same H (upd H2 Tp (.tup [.int (i : Nat), y])) := S2.trans (Same.new hT)
        obtain ⟨e, he, De, hze, kE⟩ := step xs ds i y rfl rfl hx hy hp
        refine ⟨Tp, _, rfl, SqT.of upd_same, rfl, _, _, rfl, _, _, rfl, rfl, ?_⟩
        refine ⟨_, rfl, _, rfl, m, y, e, A, us, rfl, M.same S3, De.same S3, by omega, fun H4 S4 => ⟨pairD (us.length : Int) e, rfl, ?_⟩⟩
        cases hb : pairD (us.length : Int) e with
        | false => exact iteT ⟨_, rfl, _, rfl, fun q hq => kE hb H4 (S3.trans S4) q hq⟩
        | true =>
          refine iteF ⟨_, _, rfl, S3.trans S4, fun j e' hj he' => ?_⟩
          by_cases q : j = i
          · rw [q, he] at he'
            rw [← Option.some.inj he']
            exact hb
          · exact hp j e' (by omega) he'
      · rintro σ H2 ⟨v2, v3, rfl, S2, hp⟩
        refine fin a xs ds H2 v2 v3 rfl (.inl ha) rfl rfl hx (fun e he => ?_) S2
        obtain ⟨j, hj⟩ := List.mem_iff_getElem?.mp he
        exact hp j e (by rw [hx.len]; exact (List.getElem?_eq_some_iff.mp hj).1) hj
    | @tup a xs ds ha hx =>
      refine ⟨_, (pss_cons (ps_if (pt_not (pt_val (pe_call G_is_sequence (hr.mono (by decide)) rfl d_is_sequence.g d_is_sequence.F.kp d_is_sequence.b .nil pass0 (pa_cons (pv 1) pa_nil)))) (pss_one (ps_raiseLow rfl TQ hr tk (pa_cons pe_int pa_nil) (by rfl))) pss_nil)
    (pss_cons (ps_for (passes_of rfl) rfl (pi_enumT (by rfl) T.enumerate (pa_cons (pv 1) pa_nil)) (pg_tup rfl (pgs_cons (pg_name (i := 2) sc_closed_face.nd rfl (Or.inl rfl)) (pgs_cons (pg_name (i := 3) sc_closed_face.nd rfl (Or.inl rfl)) pgs_nil)))
      (pss_one (ps_if (pt_not (pt_val (pe_call G_is_pair (hr.mono (by decide)) rfl d_is_pair.g d_is_pair.F.kp d_is_pair.b .nil pass0 (pa_cons (pv 0) (pa_cons (pv 3) pa_nil))))) (pss_one (ps_raiseLow rfl TQ hr tk (pa_cons (pv 2) pa_nil) (by rfl))) pss_nil)))
    (pss_one (ps_ret (pe_call G_wider_face (hr.mono (by decide)) rfl d_wider_face.g d_wider_face.F.kp d_wider_face.b .nil pass0 (pa_cons (pv 0) (pa_cons (pe_call G_resting (hr.mono (by decide)) rfl d_resting.g d_resting.F.kp d_resting.b .nil pass0 (pa_cons (pv 0) pa_nil)) (pa_cons (pv 1) pa_nil)))))))), ?_⟩
      refine ⟨_, rfl, _, _, rfl, .tup ha hx, fun H1 S1 => ⟨true, rfl, iteF ?_⟩⟩
      refine ⟨_, rfl, a, xs, rfl, SqT.of (S1 _ _ ha), ?_⟩
      refine for_enumT (fun i σ H' => ∃ v2 v3 : Option V, σ = [some (.ref m), some (.ref a), v2, v3] ∧ Same H H' ∧ ∀ j e, j < i → ds[j]? = some e → pairD (us.length : Int) e = true) ⟨none, none, rfl, S1, fun j e h => absurd h (Nat.not_lt_zero j)⟩ (fun i σ H' ⟨_, _, _, S, _⟩ => SqT.of (S _ _ ha)) ?_ ?_
      · rintro i y σ H2 Tp hy ⟨v2, v3, rfl, S2, hp⟩ hT
        have S3 : Same H (upd H2 Tp (.tup [.int (i : Nat), y])) := S2.trans (Same.new hT)
        obtain ⟨e, he, De, hze, kE⟩ := step xs ds i y rfl rfl hx hy hp
        refine ⟨Tp, _, rfl, SqT.of upd_same, rfl, _, _, rfl, _, _, rfl, rfl, ?_⟩
        refine ⟨_, rfl, _, rfl, m, y, e, A, us, rfl, M.same S3, De.same S3, by omega, fun H4 S4 => ⟨pairD (us.length : Int) e, rfl, ?_⟩⟩
        cases hb : pairD (us.length : Int) e with
        | false => exact iteT ⟨_, rfl, _, rfl, fun q hq => kE hb H4 (S3.trans S4) q hq⟩
        | true =>
          refine iteF ⟨_, _, rfl, S3.trans S4, fun j e' hj he' => ?_⟩
          by_cases q : j = i
          · rw [q, he] at he'
            rw [← Option.some.inj he']
            exact hb
          · exact hp j e' (by omega) he'
      · rintro σ H2 ⟨v2, v3, rfl, S2, hp⟩
        refine fin a xs ds H2 v2 v3 rfl (.inr ha) rfl rfl hx (fun e he => ?_) S2
        obtain ⟨j, hj⟩ := List.mem_iff_getElem?.mp he
        exact hp j e (by rw [hx.len]; exact (List.getElem?_eq_some_iff.mp hj).1) hj
    | non => exact absurd rfl hs
    | bl b => exact absurd rfl hs
    | int i => exact absurd rfl hs
    | str z => exact absurd rfl hs
    | dct h => exact absurd rfl hs
theorem ok_common {f fr fk : Addr} {fd fdr fdk : FuncData} (A0 : Df K mg "common_face" s_common_face f fd P_common_face) (d_refuse_no_face : Df K mg "_refuse_no_face" s_refuse_no_face fr fdr P_refuse_no_face) (G_refuse : FnOk P w K mg base (L2.CX P w) 9 fr fdr P_refuse_no_face (spRefuse CM CR)) (d_kernel_of : Df K mg "kernel_of" s_kernel_of fk fdk P_kernel_of) (T : Txt mg) : FnOk P w K mg base (L2.CX P w) 10 f fd P_common_face (spCommon CM CR) := by
  have G_kernel_of : FnOk P w K mg base CX0 1 fk fdk P_kernel_of (spKOfT K) := ok_kofT d_kernel_of T
  refine A0.F.okX sc_common_face (fun vs H Q E h => ?_) (fun cdv Ar outer s H vs Q E hr h => ?_)
  · obtain ⟨m, x, y, d, e, A, us, rfl, _⟩ := h
    rfl
  · obtain ⟨m, x, y, d, e, A, us, rfl, M, O, D, De, hz, hz2, k1, k2, k3⟩ := h
    have tk : Takes (cxOf (L2.CX P w) P w K mg base N_common_face "common_face" (defScope s_common_face) f cdv Ar outer s H E) (fun cls d _ H => E cls d H) := takes_of rfl rfl rfl rfl
    refine ⟨_, (pss_cons (ps_expr (pe_callS G_refuse (hr.mono (by decide)) rfl d_refuse_no_face.g d_refuse_no_face.F.kp d_refuse_no_face.b (fun σ => passAt tk σ) (pa_cons (pv 0) (pa_cons (pv 1) (pa_cons pe_int pa_nil)))))
    (pss_cons (ps_expr (pe_callS G_refuse (hr.mono (by decide)) rfl d_refuse_no_face.g d_refuse_no_face.F.kp d_refuse_no_face.b (fun σ => passAt tk σ) (pa_cons (pv 0) (pa_cons (pv 2) (pa_cons pe_int pa_nil)))))
    (pss_one (ps_ret (pe_call G_kernel_of (hr.mono (by decide)) rfl d_kernel_of.g d_kernel_of.F.kp d_kernel_of.b .nil pass0 (pa_cons (pe_listZip rfl (pa_cons (pv 1) (pa_cons (pv 2) pa_nil)) (by rfl) T.list (by rfl) T.zip) pa_nil)))))), ?_⟩
    refine ⟨_, rfl, _, rfl, m, x, d, 0, A, us, rfl, M, O, D, hz, fun F1 H1 S1 => ?_, fun F => k1 F⟩
    refine ⟨_, rfl, _, rfl, m, y, e, 1, A, us, rfl, M.same S1, O, De.same S1, hz2, fun F2 H2 S2 => ?_, fun F H' q S' hq => k2 F1 F H' q (S1.trans S') hq⟩
    have k4 := k3 F1 F2
    obtain ⟨ns, rfl, l1, c1, _⟩ := F1
    obtain ⟨ms, rfl, l2, c2, _⟩ := F2
    have lr : (rsOf us).length = us.length := rsOf_len us
    rw [lr] at l1 l2
    have n0 := O.rs.pos
    have n1 := O.n1
    have rd : ∀ {z : V} {ns : List Int}, Dv H z (.tuple (ns.map PyData.int)) → kerG ns = ns → ∃ a, z = .ref a ∧ H a = some (.tup (ns.map V.int)) := fun {z ns} D c => by
      cases D with
      | @tup a xs ds ha hx =>
        have ex : xs = ns.map V.int := by
          have := hx.ints (n := (ns.length : Int)) (isB_ints fun z hz => canon_range c hz)
          rw [this, intD_ints]
        subst ex
        exact ⟨a, rfl, ha⟩
    obtain ⟨a, rfl, ha⟩ := rd D c1
    obtain ⟨b, rfl, hb⟩ := rd De c2
    have S12 := S1.trans S2
    refine ⟨_, rfl, _, rfl, a, b, _, _, rfl, SqT.of (S12 _ _ ha), SqT.of (S12 _ _ hb), by rw [List.length_map, List.length_map, l1, l2], by rw [List.length_map]; omega, fun H3 p ts S3 hp hts nd np lt hp3 hpr => ?_⟩
    rw [List.length_map] at lt
    have lzz : (List.zip ns ms).length = us.length := by rw [List.length_zip, l1, l2, Nat.min_self]
    refine ⟨p, ts, (List.zip ns ms).map fun q => [Sum.inl q.1, Sum.inl q.2], rfl, SqL.of hp3, ⟨by rw [List.length_map, lzz]; omega, fun j t k e1 e2 => ?_⟩, by rw [List.length_map, lzz]; exact n1, fun H4 r S4 hr4 hr5 => ?_⟩
    · rw [List.getElem?_map] at e2
      cases ez : (List.zip ns ms)[j]? with
      | none =>
        rw [ez] at e2
        cases e2
      | some q =>
        rw [ez] at e2
        obtain rfl := Option.some.inj e2
        obtain ⟨f1, f2⟩ := List.getElem?_zip_eq_some.mp ez
        exact hpr j t (.int q.1) (.int q.2) e1 (by rw [List.getElem?_map, f1]; rfl) (by rw [List.getElem?_map, f2]; rfl)
    · have ek : kerG ((List.zip ns ms).map fun q => ([Sum.inl q.1, Sum.inl q.2] : List Key)) = comL [ns, ms] us.length := by
        rw [ker_map _ (fun a b h => by
          injection h with h1 h2
          injection h2 with h2 h3
          injection h1 with h1
          injection h2 with h2
          exact Prod.ext h1 h2)]
        exact com_zip l1 l2
      rw [ek] at hr5
      have := k4 H4 r (S12.trans (S3.trans S4))
      rw [intsD_tuple, intsD_tuple] at this
      exact this hr5
end
end Lk

set_option Elab.async false
set_option linter.all false
set_option maxRecDepth 100000
set_option maxHeartbeats 4000000
/-! comprehensions that make new tuples of ints -/
namespace Lk
open PySem L2
/-- a list of tuples of ints -/
structure ListT (H : Hp) (p : Addr) (ts : List (Addr × List Int)) : Prop where
  top : H p = some (.lst (ts.map fun t => V.ref t.1))
  row : ∀ t ∈ ts, H t.1 = some (.tup (t.2.map V.int))
theorem ListT.same {H H' : Hp} {p : Addr} {ts : List (Addr × List Int)} (x : ListT H p ts) (S : Same H H') : ListT H' p ts := ⟨S _ _ x.top, fun t ht => S _ _ (x.row t ht)⟩
theorem range_fmG {α : Type} {opt : Nat → Option α} {i : Nat} : (List.range (i + 1)).filterMap opt = (List.range i).filterMap opt ++ (opt i).toList := by
  rw [List.range_succ, List.filterMap_append]
  congr 1
theorem fm_lenG {α : Type} {opt : Nat → Option α} (n : Nat) : ((List.range n).filterMap opt).length ≤ n := by
  have := List.length_filterMap_le opt (List.range n)
  rw [List.length_range] at this
  exact this
theorem fm_filter {α β γ : Type} (f : α → β) (g : β → Bool) (h : β → γ) : ∀ l : List α, ((l.map f).filter g).map h = l.filterMap fun x => if g (f x) = true then some (h (f x)) else none
  | [] => rfl
  | x :: l => by
    have ih := fm_filter f g h l
    by_cases e : g (f x) = true
    · simp [e, ih]
    · simp [e, ih]
section
variable {J : It} {n : Nat} {G : Hp → Prop} {Y : Nat → Hp → V → Hp → Prop} {g : TG} {tt : TT} {te : TE} {vs : List Nat} {σ : St} {H1 : Hp} {D : Addr} {Qd : Hp → Prop}
theorem lcWT (w : Walk J n G Y) (opt : Nat → Option (List Int)) (hD : H1 D = none) (hn : n ≤ 1000000) (hG : ∀ H, Same H1 H → G H)
    (hs : ∀ i x H H', i < n → Same H1 H → Y i H x H' → ∀ (N : Hp → Prop) (Q : VK), (opt i = none → ∀ H3, Same H H3 → N H3) → (∀ d, opt i = some d → ∀ H4 t, Same H H4 → H4 t = some (.tup (d.map V.int)) → Q (.ref t) H4) → g x (wipe σ vs) H' fun σ2 H2 => wipe σ2 vs = wipe σ vs ∧ tt σ2 H2 fun b H3 => if b = true then te σ2 H3 Q else N H3)
    (hd : ∀ H' ts, Same H1 H' → ListT H' D ts → ts.map (·.2) = (List.range n).filterMap opt → Qd H') :
    ∃ W : Nat → Nat → Hp → Prop, (∃ m, W 0 m (upd H1 D (.lst []))) ∧ ∀ i m H, W i m H →
      (J.stop i H ∧ Qd H) ∨ (J.go i H ∧ ∃ Nx : Hp → Prop, (∀ H', Nx H' → ∃ m', m' < m ∧ W (i + 1) m' H') ∧ ∀ x H', J.yld i H x H' → g x (wipe σ vs) H' fun σ2 H2 => wipe σ2 vs = wipe σ vs ∧ tt σ2 H2 fun b H3 =>
        if b = true then te σ2 H3 fun y H4 => ∃ acc, H4 D = some (.lst acc) ∧ acc.length < sizeLine ∧ Nx (upd H4 D (.lst (acc ++ [y]))) else Nx H3) := by
  refine lc_it w (fun i H => Same H1 H ∧ ∃ ts, ListT H D ts ∧ ts.map (·.2) = (List.range i).filterMap opt) ⟨Same.new hD, [], ⟨upd_same, fun t ht => by cases ht⟩, rfl⟩ (fun i H _ p => hG H p.1) (fun i x H H' hi p y => ?_) (fun H p => by
    obtain ⟨S, ts, L, e⟩ := p
    exact hd H ts S L e)
  obtain ⟨S, ts, L, e⟩ := p
  refine hs i x H H' hi S y _ _ (fun e2 H3 S3 => ⟨S.trans S3, ts, L.same S3, ?_⟩) (fun z e2 H4 t S4 ht => ⟨_, S4 _ _ L.top, ?_, ((KP.same (S := fun _ => False) (S.trans S4)).mut hD).toSame, ts ++ [(t, z)], ⟨?_, fun u hu => ?_⟩, ?_⟩)
  · rw [e, range_fmG, e2]
    simp
  · have := congrArg List.length e
    rw [List.length_map] at this
    rw [List.length_map, this]
    exact Nat.lt_of_le_of_lt (Nat.le_trans (fm_lenG i) (Nat.le_trans (Nat.le_of_lt hi) hn)) (by decide)
  · rw [upd_same, List.map_append]
    rfl
  · have nD : ∀ {u : Addr} {xs : List V}, H4 u = some (.tup xs) → u ≠ D := fun h q => by
      rw [q, S4 _ _ L.top] at h
      cases h
    rcases List.mem_append.mp hu with q | q
    · have hr := S4 _ _ (L.row u q)
      exact (upd_ne (nD hr)).trans hr
    · rw [List.mem_singleton.mp q]
      exact (upd_ne (nD ht)).trans ht
  · rw [range_fmG, e2, List.map_append, e]
    rfl
end
end Lk

set_option Elab.async false
set_option linter.all false
set_option maxRecDepth 100000
set_option maxHeartbeats 8000000
namespace Lk
open PySem L2
abbrev s_law_parts : Stmt := top 45
abbrev N_law_parts : List Str := ["many", "found", "state", "longer", "part", "least"]
abbrev P_law_parts : List Str := ["many"]
theorem sc_law_parts : FnScope N_law_parts P_law_parts (defScope s_law_parts) := ⟨rfl, rfl, rfl, by decide +kernel, rfl, by decide +kernel, by decide +kernel⟩
def optP (i : Nat) (p : List Int) (k : Nat) : Option (List Int) := if k = i ∨ p.getD k 0 = (k : Int) then some (p ++ [(k : Int)]) else none
theorem oneMore_fm (i : Nat) (p : List Int) : oneMore i p = (List.range (i + 1)).filterMap (optP i p) := by
  unfold oneMore rngI
  rw [fm_filter]
  congr 1
  funext k
  unfold optP
  rw [Int.toNat_natCast]
  by_cases h : k = i ∨ p.getD k 0 = (k : Int)
  · rw [if_pos h, if_pos]
    rcases h with h | h
    · rw [decide_eq_true (show ((k : Nat) : Int) = (i : Int) by omega), Bool.true_or]
    · rw [decide_eq_true h, Bool.or_true]
  · rw [if_neg h, if_neg]
    rw [not_or] at h
    rw [decide_eq_false (show ¬ ((k : Nat) : Int) = (i : Int) from fun q => h.1 (by omega)), decide_eq_false h.2]
    decide
def spParts : Sp := fun vs H Q _ => ∃ n : Nat, vs = [.int (n : Int)] ∧ n ≤ 4 ∧ ∀ H' p ts, Same H H' → ListT H' p ts → ts.map (·.2) = partsL n → Q (.ref p) H'
theorem cat_read {K : PySem.W.Frag} {H : Hp} {a b : Addr} {xs ys : List Int} {Q : VK} (ha : H a = some (.tup (xs.map V.int))) (hb : H b = some (.tup (ys.map V.int))) (hl : xs.length + ys.length ≤ 10000) (k : ∀ H4 t, Same H H4 → H4 t = some (.tup ((xs ++ ys).map V.int)) → Q (.ref t) H4) : rCatA K (.ref a) (.ref b) H Q := by
  refine ⟨a, b, _, _, rfl, rfl, SqT.of ha, SqT.of hb, by rw [List.length_map, List.length_map]; exact Nat.le_trans hl (by decide), fun e => ?_, fun _ e => ?_, fun _ _ p hp => ?_⟩
  · refine k H b (Same.refl _) ?_
    rw [List.map_eq_nil_iff.mp e]
    exact hb
  · refine k H a (Same.refl _) ?_
    rw [List.map_eq_nil_iff.mp e, List.append_nil]
    exact ha
  · refine k _ p (Same.new hp) ?_
    rw [upd_same, List.map_append]
section
variable {P : Program} {w : World} {K : PySem.W.Frag} {mg : Str → Option Value} {base : Heap}
theorem ok_parts {f : Addr} {fd : FuncData} (A0 : Df K mg "_law_parts" s_law_parts f fd P_law_parts) (T : Txt mg) : FnOk P w K mg base CX0 1 f fd P_law_parts spParts := by
  refine A0.F.ok sc_law_parts (fun vs H Q E h => ?_) (fun cdv Ar outer s H vs Q E hr h => ?_)
  · obtain ⟨n, rfl, _⟩ := h
    rfl
  · obtain ⟨n, rfl, h4, k⟩ := h
    refine ⟨_, (pss_cons (ps_set (i := 1) sc_law_parts.nd rfl (Or.inl rfl) (pe_lst (pa_cons (pe_tup pa_nil) pa_nil)))
    (pss_cons (ps_for PassesOwn.never rfl (pi_range1 rfl T.range (pa_cons (pv 0) pa_nil)) (pg_name (i := 2) sc_law_parts.nd rfl (Or.inr rfl))
      (pss_cons (ps_set (i := 3) sc_law_parts.nd rfl (Or.inl rfl) (pe_lst pa_nil))
      (pss_cons (ps_for PassesOwn.never rfl (pi_list (pv 1)) (pg_name (i := 4) sc_law_parts.nd rfl (Or.inr rfl))
        (pss_one (ps_set (i := 3) sc_law_parts.nd rfl (Or.inl rfl) (pe_op op_cat (pv 3) (pe_lc (own := [("least", 5)]) (g := gName 5) (tt := tOr (tTest (tOp rEq (tVar 5) (tVar 2))) (tTest (tOp rEq (tOp (rIxT K) (tVar 4) (tVar 5)) (tVar 5)))) (te := tOp (rCatA K) (tVar 4) (tTup (tCons (tVar 5) tNil))) rfl sc_law_parts.nd (pi_range1 rfl T.range (pa_cons (pe_op op_add (pv 2) pe_int) pa_nil)) (blkOk_by (N := N_law_parts) (sc := defScope s_law_parts) (by decide +kernel)) (fun _ _ _ _ _ => (pg_name (i := 5) sc_law_parts.nd rfl (Or.inl rfl))) (fun _ _ _ _ _ => (pts_one (PW.pt (pw_or (pt_cmpR op_eq (pv 5) (pv 2) (nomark _)) (pw_or1 (pt_cmpR op_eq (pe_ix ix_tup (pv 4) (pv 5) (fun _ _ => rfl)) (pv 5) (nomark _))))))) (fun _ _ _ _ _ => (pe_op op_catA (pv 4) (pe_tup (pa_cons (pv 5) pa_nil)))))))))
      (pss_one (ps_set (i := 1) sc_law_parts.nd rfl (Or.inl rfl) (pv 3))))))
    (pss_one (ps_ret (pv 1))))), ?_⟩
    refine ⟨by decide, fun t0 ht0 => ⟨by show 1 ≤ sizeLine; decide, fun p0 hp0 => ?_⟩⟩
    have n00 : t0 ≠ p0 := fun e => by rw [← e, upd_same] at hp0; cases hp0
    have S0 : Same H (upd (upd H t0 (.tup [])) p0 (.lst [.ref t0])) := (Same.new ht0).trans (Same.new hp0)
    refine ⟨_, rfl, (n : Int), rfl, by omega, by omega, ?_⟩
    rw [Int.toNat_natCast]
    refine for_it walk_rangeV (fun i σ H' => ∃ (p : Addr) (v2 v3 v4 : Option V) (ts : List (Addr × List Int)), σ = [some (.int (n : Int)), some (.ref p), v2, v3, v4, none] ∧ Same H H' ∧ ListT H' p ts ∧ ts.map (·.2) = partsL i) ⟨p0, none, none, none, [(t0, [])], rfl, S0, ⟨upd_same, fun t ht => ?_⟩, rfl⟩ (fun i σ H' _ _ => trivial) ?_ ?_
    · rw [List.mem_singleton.mp ht]
      exact (upd_ne n00).trans upd_same
    · rintro i x σ H1 H2 hi ⟨p, v2, v3, v4, ts, rfl, S1, L1, e1⟩ ⟨rfl, hx⟩
      obtain rfl := Option.some.inj hx
      have lts : ts.length = (partsL i).length := by rw [← e1, List.length_map]
      have l15 := parts_few (show i ≤ 4 by omega)
      refine ⟨by decide, fun q hq => ?_⟩
      have nqp : q ≠ p := fun e => by rw [e, L1.top] at hq; cases hq
      have wl := walk_list (K := K) (a := p) (xs := ts.map fun t => V.ref t.1)
      rw [List.length_map] at wl
      refine ⟨_, rfl, p, rfl, ⟨_, SqL.of ((Same.new hq) _ _ L1.top)⟩, ?_⟩
      refine for_it wl (fun j σ H' => ∃ (q : Addr) (v4 : Option V) (us : List (Addr × List Int)), σ = [some (.int (n : Int)), some (.ref p), some (.int (i : Int)), some (.ref q), v4, none] ∧ Same H2 H' ∧ ListT H' q us ∧ us.map (·.2) = ((partsL i).take j).flatMap (oneMore i)) ⟨q, v4, [], rfl, Same.new hq, ⟨upd_same, fun t ht => by cases ht⟩, by simp⟩ (fun j σ H' _ ⟨_, _, _, _, S, _⟩ => SqL.of (S _ _ L1.top)) ?_ ?_
      · rintro j x σ H3 H4 hj ⟨q1, w4, us, rfl, S3, L3, e3⟩ ⟨rfl, hx⟩
        have hlt : j < ts.length := hj
        have hu := List.getElem?_eq_getElem hlt
        have hx : (ts.map fun t => V.ref t.1)[j]? = some x := hx
        rw [List.getElem?_map, hu] at hx
        obtain rfl := Option.some.inj hx
        obtain ⟨u, eu⟩ : ∃ u, u = ts[j] := ⟨_, rfl⟩
        rw [← eu] at hu ⊢
        have hur := S3 _ _ (L1.row u (mem_of_get hu))
        have hpi : (partsL i)[j]? = some u.2 := by
          rw [← e1, List.getElem?_map, hu]
          rfl
        have ulen : u.2.length = i := (mem_parts.mp (mem_of_get hpi)).1
        have usl : us.length ≤ 15 * 10 := by
          have h1 := congrArg List.length e3
          rw [List.length_map] at h1
          have h2 : ∀ l : List (List Int), (l.flatMap (oneMore i)).length ≤ l.length * 5 := by
            intro l
            induction l with
            | nil => simp
            | cons a l ih =>
              rw [List.flatMap_cons, List.length_append, List.length_cons]
              have : (oneMore i a).length ≤ 5 := by
                rw [oneMore_fm]
                have := fm_lenG (opt := optP i a) (i + 1)
                omega
              omega
          have h3 := h2 ((partsL i).take j)
          rw [List.length_take] at h3
          omega
        refine ⟨_, rfl, _, rfl, _, _, rfl, rfl, _, rfl, by omega, by omega, fun D hD => ?_⟩
        rw [show ((i : Int) + 1).toNat = i + 1 by omega]
        refine lcWT walk_rangeV (optP i u.2) hD (by omega) (fun _ _ => trivial) ?_ ?_
        · rintro k0 x H5 H6 hk S5 ⟨rfl, hx⟩ N Q' kN kQ
          obtain rfl := Option.some.inj hx
          have hur5 := S5 _ _ hur
          refine ⟨wipe1 _ _ _, ?_⟩
          have mk : optP i u.2 k0 = some (u.2 ++ [(k0 : Int)]) → tOp (rCatA K) (tVar 4) (tTup (tCons (tVar 5) tNil)) ((wipe [some (.int (n : Int)), some (.ref p), some (.int (i : Int)), some (.ref q1), some (.ref u.1), none] [5]).set 5 (some (.int (k0 : Int)))) H6 Q' := fun e => by
            refine ⟨_, rfl, _, rfl, by show 1 ≤ sizeLine; decide, fun r hr0 => ?_⟩
            refine cat_read ((Same.new hr0) _ _ hur5) (ys := [(k0 : Int)]) upd_same (by rw [ulen]; show i + 1 ≤ 10000; omega) fun H7 t S7 ht => kQ _ e H7 t ((Same.new hr0).trans S7) ht
          refine ⟨_, rfl, _, rfl, rfl, _, rfl, ?_⟩
          by_cases e : k0 = i
          · rw [decide_eq_true (show V.int (k0 : Int) = V.int (i : Int) by rw [e])]
            refine iteT (iteT (mk ?_))
            unfold optP
            rw [if_pos (.inl e)]
          · rw [decide_eq_false (show ¬ V.int (k0 : Int) = V.int (i : Int) from fun q => e (by injection q with q; omega))]
            refine iteF ?_
            have g0 : (u.2.map V.int)[((k0 : Nat) : Int).toNat]? = some (V.int (u.2.getD k0 0)) := by
              have := item_of (xs := u.2) (s := (k0 : Int)) (by omega) (by omega) (0 : Int)
              rw [List.getElem?_map, this]
              rw [Int.toNat_natCast]
              rfl
            refine ⟨_, rfl, _, rfl, u.1, _, _, _, rfl, rfl, SqT.of hur5, atI_int (by omega) g0, _, rfl, rfl, _, rfl, ?_⟩
            by_cases e2 : u.2.getD k0 0 = (k0 : Int)
            · rw [decide_eq_true (show V.int (u.2.getD k0 0) = V.int (k0 : Int) by rw [e2])]
              refine iteT (mk ?_)
              unfold optP
              rw [if_pos (.inr e2)]
            · rw [decide_eq_false (show ¬ V.int (u.2.getD k0 0) = V.int (k0 : Int) from fun q => e2 (by injection q))]
              refine iteF (kN ?_ H6 (Same.refl _))
              unfold optP
              rw [if_neg (fun q => q.elim e e2)]
        · intro H5 ws S5 L5 e5
          have lws : ws.length ≤ i + 1 := by
            have h1 := congrArg List.length e5
            rw [List.length_map] at h1
            rw [h1]
            exact fm_lenG _
          refine ⟨q1, D, _, _, rfl, rfl, S5 _ _ L3.top, L5.top, by rw [List.length_map, List.length_map]; exact Nat.le_trans (by omega : _ ≤ 1000) (by decide), fun r hr0 => ?_⟩
          refine ⟨r, _, us ++ ws, rfl, (S3.trans S5).trans (Same.new hr0), ⟨by rw [upd_same, List.map_append], fun t ht => ?_⟩, ?_⟩
          · refine (Same.new hr0) _ _ ?_
            rcases List.mem_append.mp ht with q | q
            · exact S5 _ _ (L3.row t q)
            · exact L5.row t q
          · rw [List.map_append, e3, e5, ← oneMore_fm, take_next hpi, List.flatMap_append]
            simp
      · rintro σ H3 ⟨q1, w4, us, rfl, S3, L3, e3⟩
        rw [lts, List.take_length] at e3
        exact ⟨_, rfl, q1, _, _, _, us, rfl, S1.trans S3, L3, e3⟩
    · rintro σ H1 ⟨p, v2, v3, v4, ts, rfl, S1, L1, e1⟩
      exact ⟨_, rfl, k H1 p ts S1 L1 e1⟩
end
end Lk

set_option Elab.async false
set_option linter.all false
set_option maxRecDepth 100000
set_option maxHeartbeats 8000000
namespace Lk
open PySem L2
abbrev s_law_common : Stmt := top 47
abbrev N_law_common : List Str := ["parts", "many", "rows", "part", "state", "row"]
abbrev P_law_common : List Str := ["parts", "many"]
theorem sc_law_common : FnScope N_law_common P_law_common (defScope s_law_common) := ⟨rfl, rfl, rfl, by decide +kernel, rfl, by decide +kernel, by decide +kernel⟩
theorem lay_rowsT (rs : List (List Int)) : SeqAt.shaped (.list (rs.map rowP)) = true := by
  have h1 : PyData.canLay0 (.list (rs.map rowP)) = true := canLay_rows rs
  have h2 : PyData.depth (.list (rs.map rowP)) = PyData.depthAll (rs.map rowP) + 1 := rfl
  have h3 := depth_rows rs
  unfold SeqAt.shaped
  rw [h1, Bool.true_and]
  exact decide_eq_true (by omega)
theorem dp_listT {K : PySem.W.Frag} {H : Hp} {p : Addr} {ts : List (Addr × List Int)} (L : ListT H p ts) : Dp K H (.ref p) (.list ((ts.map (·.2)).map rowP)) := by
  have e : (ts.map (·.2)) = rsOf ts := rfl
  rw [e]
  exact .lst (SqL.of L.top) (dp_rows L.row)
theorem eqv_row2 (a b : List Int) : PyData.eqv (rowP a) (rowP b) = decide (a = b) := eqv_ints a b
def spCommonL : Sp := fun vs H Q _ => ∃ (p : Addr) (n : Nat) (ts : List (Addr × List Int)), vs = [.ref p, .int (n : Int)] ∧ ListT H p ts ∧ ts.length ≤ 1000 ∧ n ≤ 1000 ∧ (∀ t ∈ ts, t.2.length = n) ∧ ∀ H' q, Same H H' → H' q = some (.tup ((comL (ts.map (·.2)) n).map V.int)) → Q (.ref q) H'
section
variable {P : Program} {w : World} {K : PySem.W.Frag} {mg : Str → Option Value} {base : Heap}
theorem ok_commonL {f : Addr} {fd : FuncData} (A0 : Df K mg "_law_common" s_law_common f fd P_law_common) (T : Txt mg) : FnOk P w K mg base CX0 1 f fd P_law_common spCommonL := by
  refine A0.F.ok sc_law_common (fun vs H Q E h => ?_) (fun cdv Ar outer s H vs Q E hr h => ?_)
  · obtain ⟨p, n, ts, rfl, _⟩ := h
    rfl
  · obtain ⟨p, n, ts, rfl, L, hz, hn, hl, k⟩ := h
    have hu : Ar.units + 3 + 65 < cLine := by have := hr.un; simp only [Around.deeper] at this; omega
    refine ⟨_, (pss_cons (ps_set (i := 2) sc_law_common.nd rfl (Or.inr rfl) (pe_lc (own := [("state", 4)]) (g := gName 4) (tt := tYes) (te := tThen (tLc (iList K (tVar 0)) (gName 3) tYes (tOp (rIxT K) (tVar 3) (tVar 4)) [3]) (kTup K)) rfl sc_law_common.nd (pi_range1 rfl T.range (pa_cons (pv 1) pa_nil)) (blkOk_by (N := N_law_common) (sc := defScope s_law_common) (by decide +kernel)) (fun _ _ _ _ _ => (pg_name (i := 4) sc_law_common.nd rfl (Or.inr rfl))) (fun _ _ _ _ _ => pts_nil) (fun _ _ _ _ _ => (pe_tupleOf (by rfl) T.tuple (pe_lc (own := [("part", 3)]) (wi := iList K (tVar 0)) (g := gName 3) (tt := tYes) (te := tOp (rIxT K) (tVar 3) (tVar 4)) rfl sc_law_common.nd (pi_list (pv 0)) (blkOk_by (N := N_law_common) (sc := { kind := .function, names := [(".0", .local), ("state", .cell), ("tuple", .globalImplicit), ("parts", .cell)], isGenerator := false, isCoroutine := false }) (by decide +kernel)) (fun _ _ _ _ _ => (pg_name (i := 3) sc_law_common.nd rfl (Or.inl rfl))) (fun _ _ _ _ _ => pts_nil) (fun _ _ _ _ _ => (pe_ix ix_tup (pv 3) (pv 4) (fun _ _ => rfl))))))))
    (pss_one (ps_ret (pe_tupleOf (by rfl) T.tuple (pe_lc (own := [("row", 5)]) (g := gName 5) (tt := tYes) (te := tBM K "list" (rIndexD K) (tVar 2) (tCons (tVar 5) tNil)) rfl sc_law_common.nd (pi_list (pv 2)) (blkOk_by (N := N_law_common) (sc := defScope s_law_common) (by decide +kernel)) (fun _ _ _ _ _ => (pg_name (i := 5) sc_law_common.nd rfl (Or.inl rfl))) (fun _ _ _ _ _ => pts_nil) (fun _ _ _ _ _ => (pe_bm PySem.F.plainAttrs_list PySem.F.slot_list_index PySem.F.type_list_index (mt_indexD hu) (pv 2) (pa_cons (pv 5) pa_nil)))))))), ?_⟩
    refine ⟨_, rfl, (n : Int), rfl, by omega, by omega, fun D hD => ?_⟩
    rw [Int.toNat_natCast]
    refine lcWT walk_rangeV (fun i => some ((ts.map (·.2)).map fun p => p.getD i 0)) hD (by omega) (fun _ _ => trivial) ?_ ?_
    · rintro i x H1 H2 hi S1 ⟨rfl, hx⟩ N Q' _ kQ
      obtain rfl := Option.some.inj hx
      refine ⟨wipe1 _ _ _, iteT (B := N H2) ⟨_, rfl, p, rfl, ⟨_, SqL.of (S1 _ _ L.top)⟩, fun D2 hD2 => ?_⟩⟩
      have wl := walk_list (K := K) (a := p) (xs := ts.map fun t => V.ref t.1)
      rw [List.length_map] at wl
      refine lcW1 (fun k => (ts.map fun t => V.ref t.1)[k]?) wl (fun k => (ts.map fun t => V.int (t.2.getD i 0))[k]?) hD2 (by omega) (fun H' S => SqL.of (S _ _ (S1 _ _ L.top))) ?_ ?_
      · intro k0 x H3 hk S3 hx2 N2 Q2 _ kQ2
        have hu1 := List.getElem?_eq_getElem hk
        rw [List.getElem?_map, hu1] at hx2
        obtain rfl := Option.some.inj hx2
        obtain ⟨u, eu⟩ : ∃ u, u = ts[k0] := ⟨_, rfl⟩
        rw [← eu] at hu1 ⊢
        have hm := mem_of_get hu1
        have hr1 := S3 _ _ (S1 _ _ (L.row u hm))
        have g0 : (u.2.map V.int)[((i : Nat) : Int).toNat]? = some (V.int (u.2.getD i 0)) := by
          have := item_of (xs := u.2) (s := (i : Int)) (by omega) (by rw [hl u hm]; omega) (0 : Int)
          rw [List.getElem?_map, this, Int.toNat_natCast]
          rfl
        refine iteT (B := N2 H3) ⟨_, rfl, _, rfl, u.1, _, _, _, rfl, rfl, SqT.of hr1, atI_int (by omega) g0, kQ2 _ ?_ H3 (Same.refl _)⟩
        rw [List.getElem?_map, hu1]
        rfl
      · intro H3 S3 e3
        rw [fm_get _ (List.length_map ..)] at e3
        refine .inl ⟨D2, _, rfl, SqL.of e3, fun r hr0 => kQ _ rfl _ r (S3.trans (Same.new hr0)) ?_⟩
        rw [upd_same, List.map_map, List.map_map]
        rfl
    · intro H1 rows S1 L1 e1
      have ec : rows.map (·.2) = colsL (ts.map (·.2)) n := by
        rw [e1]
        exact congrFun (List.filterMap_eq_map (f := fun i => (ts.map (·.2)).map fun p => p.getD i 0)) (List.range n)
      have lr : rows.length = n := by
        have := congrArg List.length ec
        rw [List.length_map, colsL_len] at this
        exact this
      refine ⟨_, rfl, D, rfl, ⟨_, SqL.of L1.top⟩, fun D2 hD2 => ?_⟩
      have wl := walk_list (K := K) (a := D) (xs := rows.map fun t => V.ref t.1)
      rw [List.length_map] at wl
      refine lcW1 (fun k => (rows.map fun t : Addr × List Int => V.ref t.1)[k]?) wl (fun k => ((comL (ts.map (·.2)) n).map V.int)[k]?) hD2 (by omega) (fun H' S => SqL.of (S _ _ L1.top)) ?_ ?_
      · intro k0 x H3 hk S3 hx2 N2 Q2 _ kQ2
        have hu1 := List.getElem?_eq_getElem hk
        rw [List.getElem?_map, hu1] at hx2
        obtain rfl := Option.some.inj hx2
        obtain ⟨u, eu⟩ : ∃ u, u = rows[k0] := ⟨_, rfl⟩
        rw [← eu] at hu1 ⊢
        have hm := mem_of_get hu1
        have L3 := L1.same S3
        have hck : (colsL (ts.map (·.2)) n)[k0]? = some u.2 := by
          rw [← ec, List.getElem?_map, hu1]
          rfl
        obtain ⟨g1, g2⟩ := idxG (mem_of_get hck)
        refine iteT (B := N2 H3) ⟨_, rfl, .inl ⟨rfl, _, SqL.of L3.top⟩, _, rfl, D, .ref u.1, rowP u.2, (rows.map (·.2)).map rowP, (colsL (ts.map (·.2)) n).idxOf u.2, rowP u.2, rfl, rfl, dp_listT L3, .tup (SqT.of (L3.row u hm)) (dpAll_ints _), lay_rowsT _, shaped_rowP _, by rw [ec, List.getElem?_map, g1]; rfl, by rw [eqv_row2]; exact decide_eq_true rfl, fun m z' hm2 hz' => ?_, kQ2 _ ?_ H3 (Same.refl _)⟩
        · rw [ec, List.getElem?_map] at hz'
          cases e : (colsL (ts.map (·.2)) n)[m]? with
          | none =>
            rw [e] at hz'
            cases hz'
          | some y =>
            rw [e] at hz'
            obtain rfl := Option.some.inj hz'
            rw [eqv_row2]
            exact decide_eq_false fun q => g2 m hm2 (by rw [e, q])
        · unfold comL
          rw [List.getElem?_map, ker_get hck]
          rfl
      · intro H3 S3 e3
        rw [fm_get _ (by unfold comL; rw [List.length_map, ker_len, colsL_len, lr])] at e3
        exact .inl ⟨D2, _, rfl, SqL.of e3, fun r hr0 => k _ r ((S1.trans S3).trans (Same.new hr0)) upd_same⟩
end
end Lk

set_option Elab.async false
set_option linter.all false
set_option maxRecDepth 100000
set_option maxHeartbeats 8000000
namespace Lk
open PySem L2
theorem fm_takeG {α : Type} (xs : List α) : ∀ i, i ≤ xs.length → (List.range i).filterMap (fun k => xs[k]?) = xs.take i
  | 0, _ => by rw [List.take_zero] <;> rfl
  | i + 1, h => by
    rw [range_fmG, fm_takeG xs i (by omega), take_next (List.getElem?_eq_getElem (show i < xs.length by omega)), List.getElem?_eq_getElem (show i < xs.length by omega)]
    rfl
theorem fm_mapG {α β : Type} (f : α → β) (xs : List α) : (List.range xs.length).filterMap (fun k => (xs[k]?).map f) = xs.map f := by
  have h := fm_takeG (xs.map f) xs.length (by rw [List.length_map]; exact Nat.le_refl _)
  rw [List.take_of_length_le (by rw [List.length_map]; exact Nat.le_refl _)] at h
  rw [← h]
  congr 1
  funext k
  rw [List.getElem?_map]
section
variable {J : It} {n : Nat} {G : Hp → Prop} {Y : Nat → Hp → V → Hp → Prop} {g : TG} {tt : TT} {te : TE} {vs : List Nat} {σ : St} {H1 : Hp} {D : Addr} {Qd : Hp → Prop}
/-- comprehensions that make new lists of ints -/
theorem lcWL (w : Walk J n G Y) (opt : Nat → Option (List Int)) (hD : H1 D = none) (hn : n ≤ 1000000) (hG : ∀ H, Same H1 H → G H)
    (hs : ∀ i x H H', i < n → Same H1 H → Y i H x H' → ∀ (N : Hp → Prop) (Q : VK), (opt i = none → ∀ H3, Same H H3 → N H3) → (∀ d, opt i = some d → ∀ H4 t, Same H H4 → H t = none → H4 t = some (.lst (d.map V.int)) → Q (.ref t) H4) → g x (wipe σ vs) H' fun σ2 H2 => wipe σ2 vs = wipe σ vs ∧ tt σ2 H2 fun b H3 => if b = true then te σ2 H3 Q else N H3)
    (hd : ∀ H' ts, Same H1 H' → GridAt H' D ts → ts.map (·.2) = (List.range n).filterMap opt → Qd H') :
    ∃ W : Nat → Nat → Hp → Prop, (∃ m, W 0 m (upd H1 D (.lst []))) ∧ ∀ i m H, W i m H →
      (J.stop i H ∧ Qd H) ∨ (J.go i H ∧ ∃ Nx : Hp → Prop, (∀ H', Nx H' → ∃ m', m' < m ∧ W (i + 1) m' H') ∧ ∀ x H', J.yld i H x H' → g x (wipe σ vs) H' fun σ2 H2 => wipe σ2 vs = wipe σ vs ∧ tt σ2 H2 fun b H3 =>
        if b = true then te σ2 H3 fun y H4 => ∃ acc, H4 D = some (.lst acc) ∧ acc.length < sizeLine ∧ Nx (upd H4 D (.lst (acc ++ [y]))) else Nx H3) := by
  refine lc_it w (fun i H => Same H1 H ∧ ∃ ts, GridAt H D ts ∧ (∀ t ∈ ts, t.1 ≠ D) ∧ ts.map (·.2) = (List.range i).filterMap opt) ⟨Same.new hD, [], ⟨upd_same, fun t ht => by cases ht⟩, (fun t ht => by cases ht), rfl⟩ (fun i H _ p => hG H p.1) (fun i x H H' hi p y => ?_) (fun H p => by
    obtain ⟨S, ts, L, _, e⟩ := p
    exact hd H ts S L e)
  obtain ⟨S, ts, L, nD, e⟩ := p
  refine hs i x H H' hi S y _ _ (fun e2 H3 S3 => ⟨S.trans S3, ts, L.same S3, nD, ?_⟩) (fun z e2 H4 t S4 t0 ht => ⟨_, S4 _ _ L.top, ?_, ((KP.same (S := fun _ => False) (S.trans S4)).mut hD).toSame, ts ++ [(t, z)], (L.same S4).snoc ht (fun q => by rw [q, L.top] at t0; cases t0) nD, fun u hu => ?_, ?_⟩)
  · rw [e, range_fmG, e2]
    simp
  · have := congrArg List.length e
    rw [List.length_map] at this
    rw [List.length_map, this]
    exact Nat.lt_of_le_of_lt (Nat.le_trans (fm_lenG i) (Nat.le_trans (Nat.le_of_lt hi) hn)) (by decide)
  · rcases List.mem_append.mp hu with q | q
    · exact nD u q
    · rw [List.mem_singleton.mp q]
      exact fun q => by
        have q : t = D := q
        rw [q, L.top] at t0
        cases t0
  · rw [range_fmG, e2, List.map_append, e]
    rfl
end
def spClassesL (K : PySem.W.Frag) : Sp := fun vs H Q _ => ∃ (g a : Addr) (A : Nat) (ts : List (Addr × List Int)) (ns : List Int), vs = [.ref g, .ref a] ∧ GridAt H g ts ∧ Rs A (rsOf ts) ∧ ts.length ≤ 1000 ∧ A ≤ 1000 ∧ SqT K H a (ns.map V.int) ∧ ns.length = ts.length ∧ kerG ns = ns ∧
  ∀ H' q us, Same H H' → GridAt H' q us → rsOf us = clsR (rsOf ts) ns → Q (.ref q) H'
section
variable {P : Program} {w : World} {K : PySem.W.Frag} {mg : Str → Option Value} {base : Heap}
theorem ok_classesL {f : Addr} {fd : FuncData} (A0 : Df K mg "_law_classes" s_law_classes f fd P_law_classes) (T : Txt mg) : FnOk P w K mg base CX0 1 f fd P_law_classes (spClassesL K) := by
  refine A0.F.ok sc_law_classes (fun vs H Q E h => ?_) (fun cdv Ar outer s H vs Q E hr h => ?_)
  · obtain ⟨g, a, A, ts, ns, rfl, _⟩ := h
    rfl
  · obtain ⟨g, a, A, ts, ns, rfl, G, R, hz, hA, ha, hl, cn, k⟩ := h
    refine ⟨_, (pss_cons (ps_set (i := 2) sc_law_classes.nd rfl (Or.inr rfl) (pe_lc (own := [("state", 3)]) (g := gName 3) (tt := tTest (tOp rEq (tOp (rIxT K) (tVar 1) (tVar 3)) (tVar 3))) (te := tVar 3) rfl sc_law_classes.nd (pi_range1 rfl T.range (pa_cons (pe_callB call_len_seq (by rfl) T.len PySem.boot_len (pa_cons (pv 1) pa_nil)) pa_nil)) (blkOk_by (N := N_law_classes) (sc := defScope s_law_classes) (by decide +kernel)) (fun _ _ _ _ _ => (pg_name (i := 3) sc_law_classes.nd rfl (Or.inl rfl))) (fun _ _ _ _ _ => (pts_one (pt_cmpR op_eq (pe_ix ix_tup (pv 1) (pv 3) (fun _ _ => rfl)) (pv 3) (nomark _)))) (fun _ _ _ _ _ => (pv 3))))
    (pss_one (ps_ret (pe_lc (own := [("least", 5)]) (g := gName 5) (tt := tYes) (te := tLc (iList K (tOp (rIxL K) (tVar 0) (tVar 5))) (gName 4) tYes (tBM K "list" (rIndex K) (tVar 2) (tCons (tOp (rIxT K) (tVar 1) (tVar 4)) tNil)) [4]) rfl sc_law_classes.nd (pi_list (pv 2)) (blkOk_by (N := N_law_classes) (sc := defScope s_law_classes) (by decide +kernel)) (fun _ _ _ _ _ => (pg_name (i := 5) sc_law_classes.nd rfl (Or.inl rfl))) (fun _ _ _ _ _ => pts_nil) (fun _ _ _ _ _ => (pe_lc (own := [("to", 4)]) (wi := iList K (tOp (rIxL K) (tVar 0) (tVar 5))) (g := gName 4) (tt := tYes) (te := tBM K "list" (rIndex K) (tVar 2) (tCons (tOp (rIxT K) (tVar 1) (tVar 4)) tNil)) rfl sc_law_classes.nd (pi_list (pe_ix ix_list (pv 0) (pv 5) (fun _ _ => rfl))) (blkOk_by (N := N_law_classes) (sc := { kind := .function, names := [(".0", .local), ("least", .local), ("face", .cell), ("leasts", .cell), ("steps", .cell)], isGenerator := false, isCoroutine := false }) (by decide +kernel)) (fun _ _ _ _ _ => (pg_name (i := 4) sc_law_classes.nd rfl (Or.inl rfl))) (fun _ _ _ _ _ => pts_nil) (fun _ _ _ _ _ => (pe_bm PySem.F.plainAttrs_list PySem.F.slot_list_index PySem.F.type_list_index mt_index (pv 2) (pa_cons (pe_ix ix_tup (pv 1) (pv 4) (fun _ _ => rfl)) pa_nil))))))))), ?_⟩
    have lr : (rsOf ts).length = ts.length := List.length_map ..
    have ci : ∀ z : Int, 0 ≤ z → z < ts.length → (ns.map V.int)[z.toNat]? = some (V.int (ns.getD z.toNat 0)) := fun z z0 z1 => by
      rw [List.getElem?_map, item_of z0 (by omega) (0 : Int)]
      rfl
    refine ⟨_, rfl, a, _, rfl, .inr ha, _, rfl, by omega, by rw [List.length_map]; omega, fun D hD => ?_⟩
    rw [List.length_map, Int.toNat_natCast]
    refine lcW1 (fun i => some (.int (i : Int))) walk_rangeV (fun i => (optL ns i).map V.int) hD (by omega) (fun _ _ => trivial) ?_ ?_
    · intro i x H1 hi S1 hx N Q' kN kQ
      obtain rfl := Option.some.inj hx
      have g0 := ci (i : Int) (by omega) (by omega)
      rw [Int.toNat_natCast] at g0
      have g1 : (ns.map V.int)[((i : Nat) : Int).toNat]? = some (V.int (ns.getD i 0)) := by
        rw [Int.toNat_natCast]
        exact g0
      refine ⟨_, rfl, _, rfl, a, _, _, _, rfl, rfl, sameT S1 ha, atI_int (by omega) g1, _, rfl, rfl, _, rfl, ?_⟩
      by_cases e : ns.getD i 0 = (i : Int)
      · rw [decide_eq_true (show V.int (ns.getD i 0) = V.int (i : Int) by rw [e])]
        refine iteT ⟨_, rfl, kQ _ ?_ H1 (Same.refl _)⟩
        unfold optL
        rw [if_pos e]
        rfl
      · rw [decide_eq_false (show ¬ V.int (ns.getD i 0) = V.int (i : Int) from fun q => e (by injection q))]
        refine iteF (kN ?_ H1 (Same.refl _))
        unfold optL
        rw [if_neg e]
        rfl
    · intro H1 S1 hL
      rw [fm_int] at hL
      have SL : ∀ {H' : Hp}, Same H1 H' → SqL K H' D ((leastL ns).map V.int) := fun S => SqL.of (S _ _ hL)
      have wk := walk_list (K := K) (a := D) (xs := (leastL ns).map V.int)
      rw [List.length_map] at wk
      have ll := leastL_len ns
      refine ⟨_, rfl, D, rfl, ⟨_, SL (Same.refl _)⟩, fun D2 hD2 => ?_⟩
      refine lcWL wk (fun i => ((leastL ns)[i]?).map fun l => clsRow ns ((rsOf ts).getD l.toNat [])) hD2 (by omega) (fun H' S => SL S) ?_ ?_
      · rintro i x H2 H3 hi S2 ⟨rfl, hx⟩ N Q' _ kQ
        obtain ⟨l, hl2, rfl⟩ := get_int hx
        obtain ⟨l0, l1, l2⟩ := mem_leastL.mp (List.mem_of_getElem? hl2)
        obtain ⟨u, hu1, hum, hul, hue, hux⟩ := row_get R l0 (by omega)
        have G3 := (G.same S1).same S2
        have hr0 := (R.row _ (mem_of_get (rsOf_get hu1))).2
        rw [lr] at hr0
        refine ⟨wipe1 _ _ _, iteT (B := N H3) ⟨_, rfl, _, rfl, g, _, _, V.ref u.1, rfl, rfl, SqL.of G3.top, atI_int l0 (by rw [List.getElem?_map, hu1]; rfl), u.1, rfl, ⟨_, SqL.of (G3.row u hum)⟩, fun D3 hD3 => ?_⟩⟩
        have wu := walk_list (K := K) (a := u.1) (xs := u.2.map V.int)
        refine lcW1 (fun i => (u.2.map V.int)[i]?) wu (fun k => ((clsRow ns u.2).map V.int)[k]?) hD3 (by rw [List.length_map, hul]; omega) (fun H' S => SqL.of (S _ _ (G3.row u hum))) ?_ ?_
        · intro k0 x H4 hk S4 hx2 N2 Q2 _ kQ2
          obtain ⟨e, he, rfl⟩ := get_int hx2
          obtain ⟨e0, e1⟩ := hr0 e (List.mem_of_getElem? he)
          refine iteT (B := N2 H4) ⟨_, rfl, .inl ⟨rfl, _, SL (S2.trans S4)⟩, _, rfl, _, rfl, a, _, _, _, rfl, rfl, sameT ((S1.trans S2).trans S4) ha, atI_int e0 (ci e e0 e1), ?_⟩
          refine idx_read (SL (S2.trans S4)) (canon_leastL cn e0 (by omega)) (kQ2 _ ?_ H4 (Same.refl _))
          unfold clsRow
          rw [List.getElem?_map, List.getElem?_map, he]
          rfl
        · intro H4 S4 e4
          rw [fm_get _ (by unfold clsRow; rw [List.length_map, List.length_map, List.length_map])] at e4
          refine kQ (clsRow ns u.2) ?_ H4 D3 S4 hD3 e4
          rw [hl2, ← hue]
          rfl
      · intro H2 us S2 G2 e2
        refine k H2 D2 us (S1.trans S2) G2 ?_
        show us.map (·.2) = _
        rw [e2]
        unfold clsR
        exact fm_mapG _ _
end
end Lk

set_option Elab.async false
set_option linter.all false
set_option maxRecDepth 100000
set_option maxHeartbeats 8000000
namespace Lk
open PySem L2
abbrev s_law_odd_face : Stmt := top 50
abbrev N_law_odd_face : List Str := ["deal", "face", "at", "many", "odd"]
abbrev P_law_odd_face : List Str := ["deal", "face"]
theorem sc_law_odd_face : FnScope N_law_odd_face P_law_odd_face (defScope s_law_odd_face) := ⟨rfl, rfl, rfl, by decide +kernel, rfl, by decide +kernel, by decide +kernel⟩
theorem nd_mem {n : Nat} {ds : List PyData} {x : PyData} (h : x ∈ ds) (hx : ∀ i, x ≠ .int i) : ¬ IsDiv n (.tuple ds) := by
  rintro ⟨ns, e, _, _⟩
  have e : ds = ns.map PyData.int := by injection e
  rw [e] at h
  obtain ⟨i, _, q⟩ := List.mem_map.mp h
  exact hx i q.symm
theorem nd_rng {n : Nat} {ds : List PyData} {z : Int} (h : PyData.int z ∈ ds) (hz : z < 0 ∨ (n : Int) ≤ z) : ¬ IsDiv n (.tuple ds) := by
  rintro ⟨ns, e, hl, c⟩
  have e : ds = ns.map PyData.int := by injection e
  rw [e] at h
  obtain ⟨i, hi, q⟩ := List.mem_map.mp h
  have q : i = z := by injection q
  have := canon_range c hi
  rw [q] at this
  omega
theorem nd_len {n : Nat} {ds : List PyData} (h : ds.length ≠ n) : ¬ IsDiv n (.tuple ds) := by
  rintro ⟨ns, e, hl, c⟩
  have e : ds = ns.map PyData.int := by injection e
  rw [e, List.length_map] at h
  exact h hl
theorem nd_first {n : Nat} {ds : List PyData} {z : Int} (h : ds[0]? = some (.int z)) (hz : z ≠ 0) : ¬ IsDiv n (.tuple ds) := by
  rintro ⟨ns, e, hl, c⟩
  have e : ds = ns.map PyData.int := by injection e
  rw [e, List.getElem?_map] at h
  cases q : ns[0]? with
  | none =>
    rw [q] at h
    cases h
  | some y =>
    rw [q] at h
    have h : PyData.int y = .int z := Option.some.inj h
    have h : y = z := by injection h
    have := canon_at c q
    omega
theorem nd_kind {n : Nat} {e : PyData} (h : isT e = false) : ¬ IsDiv n e := by
  rintro ⟨ns, rfl, _, _⟩
  cases h
/-- no division, whatever is drawn -/
def Odd (d l : Addr) (n : Nat) (H : Hp) (v : V) : Prop := ∃ e, KDv d l H v e ∧ ¬ IsDiv n e ∧ (itemsD e).length ≤ 1000
def spOddF : Sp := fun vs H Q _ => ∃ (d l a : Addr) (ns : List Int), vs = [.ref d, .ref a] ∧ DealAt H d l ∧ H a = some (.tup (ns.map V.int)) ∧ 0 < ns.length ∧ ns.length ≤ 4 ∧ kerG ns = ns ∧
  ∀ (H' : Hp) (v : V), DealAt H' d l → SB d l H H' → Odd d l ns.length H' v → Q v H'
/-- a new tuple or one that stands -/
def GoT (te : TE) (σ : St) (H : Hp) (ys : List V) : Prop := ∀ Q : VK, (∀ H4 t, Same H H4 → H4 t = some (.tup ys) → Q (.ref t) H4) → te σ H Q
theorem goT_cat {K : PySem.W.Frag} {te tf : TE} {σ : St} {H : Hp} {xs ys : List V} (h1 : GoT te σ H xs) (h2 : ∀ H', Same H H' → GoT tf σ H' ys) (hl : xs.length + ys.length ≤ 10000) : GoT (tOp (rCatA K) te tf) σ H (xs ++ ys) := by
  intro Q k
  refine h1 _ fun H1 a S1 ha => h2 H1 S1 _ fun H2 b S2 hb => ?_
  have ha2 := S2 _ _ ha
  refine ⟨a, b, xs, ys, rfl, rfl, SqT.of ha2, SqT.of hb, Nat.le_trans hl (by decide), fun e => ?_, fun _ e => ?_, fun _ _ p hp => ?_⟩
  · refine k H2 b (S1.trans S2) ?_
    rw [e]
    exact hb
  · refine k H2 a (S1.trans S2) ?_
    rw [e, List.append_nil]
    exact ha2
  · exact k _ p ((S1.trans S2).trans (Same.new hp)) upd_same
theorem goT_one {te : TE} {σ : St} {H : Hp} {v : V} (h : ∀ Q : VK, (∀ H4, Same H H4 → Q v H4) → te σ H Q) : GoT (tTup (tCons te tNil)) σ H [v] := by
  intro Q k
  refine h _ fun H1 S1 => ⟨by show 1 ≤ sizeLine; decide, fun p hp => k _ p (S1.trans (Same.new hp)) upd_same⟩
theorem slA_tr {K : PySem.W.Frag} {H : Hp} {rq : Addr} {xs : List V} {lo hi : Option Int} {Q : VK} (h : H rq = some (.tup xs)) (k : ∀ H' p, Same H H' → H' p = some (.tup (cutV xs lo hi)) → Q (.ref p) H') : rSlA K (.ref rq) lo hi H Q := by
  refine ⟨rq, xs, rfl, SqT.of h, fun e => k H rq (Same.refl _) ?_, fun _ p hp => k _ p (Same.new hp) upd_same⟩
  have e2 : cutV xs lo hi = xs := by
    unfold cutV
    rw [e.1, e.2, List.drop_zero, Nat.sub_zero, List.take_length]
  rw [e2]
  exact h
theorem DealAt.off {H : Hp} {d l t : Addr} {ys : List V} (D : DealAt H d l) (h : H t = some (.tup ys)) : ¬ dl d l t := by
  obtain ⟨bs, b, x⟩ := D
  rintro (e | e)
  · rw [e, x.hd] at h
    cases h
  · rw [e, x.hl] at h
    cases h
theorem odd_flat {d l t : Addr} {n : Nat} {H : Hp} {ys : List V} {ds : List PyData} (D : DealAt H d l) (h : H t = some (.tup ys)) (hd : ∀ H', DvAll H' ys ds) (no : ¬ IsDiv n (.tuple ds)) (hl : ds.length ≤ 1000) : Odd d l n H (.ref t) :=
  ⟨_, fun H' S => .tup (S.kp.get (D.off h) h) (hd H'), no, hl⟩
theorem Odd.same {d l : Addr} {n : Nat} {H H' : Hp} {v : V} (x : Odd d l n H v) (S : Same H H') : Odd d l n H' v := by
  obtain ⟨e, h1, h2⟩ := x
  exact ⟨e, h1.go (KP.same S).sb, h2⟩
theorem Odd.go {d l : Addr} {n : Nat} {H H' : Hp} {v : V} (x : Odd d l n H v) (S : SB d l H H') : Odd d l n H' v := by
  obtain ⟨e, h1, h2⟩ := x
  exact ⟨e, h1.go S, h2⟩
theorem mid_dv {H : Hp} {v : V} {e : PyData} (De : Dv H v e) (as bs : List Int) : DvAll H (as.map V.int ++ [v] ++ bs.map V.int) (as.map PyData.int ++ [e] ++ bs.map PyData.int) :=
  dvAll_append (dvAll_append (dvAll_ints as) (.cons De .nil)) (dvAll_ints bs)
theorem mid_mem {e : PyData} (as bs : List PyData) : e ∈ as ++ [e] ++ bs := by simp
theorem catV {K : PySem.W.Frag} {H : Hp} {a b : Addr} {xs ys : List V} {Q : VK} (ha : H a = some (.tup xs)) (hb : H b = some (.tup ys)) (hl : xs.length + ys.length ≤ 10000) (k : ∀ H4 t, Same H H4 → H4 t = some (.tup (xs ++ ys)) → Q (.ref t) H4) : rCatA K (.ref a) (.ref b) H Q := by
  refine ⟨a, b, xs, ys, rfl, rfl, SqT.of ha, SqT.of hb, Nat.le_trans hl (by decide), fun e => ?_, fun _ e => ?_, fun _ _ p hp => k _ p (Same.new hp) upd_same⟩
  · refine k H b (Same.refl _) ?_
    rw [e]
    exact hb
  · refine k H a (Same.refl _) ?_
    rw [e, List.append_nil]
    exact ha
theorem cutV_map (ns : List Int) (lo hi : Option Int) : ∃ ms : List Int, cutV (ns.map V.int) lo hi = ms.map V.int ∧ ms.length ≤ ns.length := by
  unfold cutV
  refine ⟨_, by rw [List.drop_eq_drop_iff.mpr rfl, ← List.map_drop, ← List.map_take], ?_⟩
  rw [List.length_take, List.length_drop]
  omega
theorem join_if {c : TT} {ta tb : TE} {σ : St} {H : Hp} {Q : VK} (R : V → Hp → Prop) (h1 : ∀ Q' : VK, (∀ v H', R v H' → Q' v H') → tIf c ta tb σ H Q') (h2 : ∀ v H', R v H' → Q v H') : tIf c ta tb σ H Q := h1 Q h2
theorem rep_flat {α : Type} (v : α) : ∀ k : Nat, (List.replicate k [v]).flatten = List.replicate k v
  | 0 => rfl
  | k + 1 => by
    rw [List.replicate_succ, List.flatten_cons, rep_flat v k, List.replicate_succ]
    rfl
theorem mul_ok : ∀ m : Nat, 0 < m → m ≤ 4 → MulOk "0" (m : Int)
  | 1, _, _ => by unfold MulOk; decide +kernel
  | 2, _, _ => by unfold MulOk; decide +kernel
  | 3, _, _ => by unfold MulOk; decide +kernel
  | 4, _, _ => by unfold MulOk; decide +kernel
section
variable {P : Program} {w : World} {K : PySem.W.Frag} {mg : Str → Option Value} {base : Heap}
theorem ok_oddf {f fa fo : Addr} {fd fda fdo : FuncData} (A0 : Df K mg "_law_odd_face" s_law_odd_face f fd P_law_odd_face) (d_law_any : Df K mg "_law_any" s_law_any fa fda P_law_any) (d_law_of : Df K mg "_law_of" s_law_of fo fdo P_law_of) (T : Txt mg) (zstr : mg "str" = none) : FnOk P w K mg base CX0 3 f fd P_law_odd_face spOddF := by
  have G_law_any : FnOk P w K mg base CX0 1 fa fda P_law_any spAny := ok_any d_law_any T
  have G_law_of : FnOk P w K mg base CX0 2 fo fdo P_law_of spOf := ok_of d_law_of d_law_any T
  refine A0.F.ok sc_law_odd_face (fun vs H Q E h => ?_) (fun cdv Ar outer s H vs Q E hr h => ?_)
  · obtain ⟨d, l, a, ns, rfl, _⟩ := h
    rfl
  · obtain ⟨d, l, a, ns, rfl, D, ha, n0, n4, cn, k⟩ := h
    refine ⟨_, (pss_cons (ps_par (i := 2) (j := 3) rfl sc_law_odd_face.nd rfl rfl (by decide) rfl rfl (pa_cons (pe_call G_law_any (hr.mono (by decide)) rfl d_law_any.g d_law_any.F.kp d_law_any.b .nil pass0 (pa_cons (pv 0) (pa_cons (pe_callB call_len_seq (by rfl) T.len PySem.boot_len (pa_cons (pv 1) pa_nil)) pa_nil))) (pa_cons (pe_callB call_len_seq (by rfl) T.len PySem.boot_len (pa_cons (pv 1) pa_nil)) pa_nil)) rfl)
    (pss_cons (ps_set (i := 4) sc_law_odd_face.nd rfl (Or.inl rfl) (pe_lst (pa_cons (pe_callTy call_list_of (by rfl) T.list (by decide +kernel) (pa_cons (pv 1) pa_nil)) (pa_cons (pe_op op_catA (pv 1) (pe_tup (pa_cons pe_int pa_nil))) (pa_cons (pe_slice sl_tupA (pv 1) (po_some pe_int) po_none) (pa_cons pe_non (pa_cons pe_int (pa_cons (pe_op op_catA (pe_op op_catA (pe_slice sl_tupA (pv 1) po_none (po_some (pv 2))) (pe_tup (pa_cons pe_non pa_nil))) (pe_slice sl_tupA (pv 1) (po_some (pe_op op_add (pv 2) pe_int)) po_none)) (pa_cons (pe_op op_catA (pe_op op_catA (pe_slice sl_tupA (pv 1) po_none (po_some (pv 2))) (pe_tup (pa_cons (pe_un un_neg pe_int) pa_nil))) (pe_slice sl_tupA (pv 1) (po_some (pe_op op_add (pv 2) pe_int)) po_none)) pa_nil)))))))))
    (pss_cons (ps_set (i := 4) sc_law_odd_face.nd rfl (Or.inl rfl) (pe_op op_cat (pv 4) (pe_lst (pa_cons (pe_op op_catA (pe_op op_catA (pe_slice sl_tupA (pv 1) po_none (po_some (pv 2))) (pe_tup (pa_cons (pv 3) pa_nil))) (pe_slice sl_tupA (pv 1) (po_some (pe_op op_add (pv 2) pe_int)) po_none)) (pa_cons (pe_op op_catA (pe_tup (pa_cons pe_bl pa_nil)) (pe_slice sl_tupA (pv 1) (po_some pe_int) po_none)) (pa_cons (pe_op op_mul_str pe_str (pv 3)) (pa_cons (pe_ifExp (pt_cmpR op_gt (pv 3) pe_int (nomark _)) (pe_tupleOf (by rfl) T.tuple (pe_op op_rep (pe_lst (pa_cons (pe_op op_sub (pv 3) pe_int) pa_nil)) (pv 3))) (pe_tup pa_nil)) pa_nil)))))))
    (pss_one (ps_ret (pe_call G_law_of (hr.mono (by decide)) rfl d_law_of.g d_law_of.F.kp d_law_of.b .nil pass0 (pa_cons (pv 0) (pa_cons (pe_op op_cat (pv 4) (pe_lst (pa_cons (pe_op op_catA (pe_op op_catA (pe_slice sl_tupA (pv 1) po_none (po_some (pv 2))) (pe_tup (pa_cons (pe_tup (pa_cons (pe_ix ix_tup (pv 1) (pv 2) (fun _ _ => rfl)) pa_nil)) pa_nil))) (pe_slice sl_tupA (pv 1) (po_some (pe_op op_add (pv 2) pe_int)) po_none)) (pa_cons (pe_op op_catA (pe_slice sl_tupA (pv 1) po_none (po_some (pe_un un_neg pe_int))) (pe_tup (pa_cons (pe_callTy call_str_int (by rfl) zstr (by decide +kernel) (pa_cons (pe_ix ix_tup (pv 1) (pe_un un_neg pe_int) (fun _ _ => rfl)) pa_nil)) pa_nil))) pa_nil)))) pa_nil)))))))), ?_⟩
    refine ⟨_, rfl, _, rfl, a, _, rfl, .inr (SqT.of ha), d, l, _, rfl, by rw [List.length_map]; omega, by rw [List.length_map]; omega, D, fun H1 r D1 S1 r0 r1 => ?_⟩
    rw [List.length_map] at r1
    have ha1 : H1 a = some (.tup (ns.map V.int)) := S1.kp.get (D.off ha) ha
    obtain ⟨j, rfl⟩ : ∃ j : Nat, r = (j : Int) := ⟨r.toNat, by omega⟩
    have hj : j < ns.length := by omega
    refine ⟨_, rfl, a, _, rfl, .inr (SqT.of ha1), _, _, rfl, ?_⟩
    have en : (((ns.map V.int).length : Nat) : Int) = ((ns.length : Nat) : Int) := by rw [List.length_map]
    refine norm (σ' := [some (.ref d), some (.ref a), some (.int (j : Int)), some (.int ((ns.length : Nat) : Int)), none]) (by rw [← en] <;> rfl) ?_
    have fa : ∀ {H' : Hp}, Same H1 H' → H' a = some (.tup (ns.map V.int)) := fun S => S _ _ ha1
    have cT : ∀ m : Nat, m ≤ ns.length → cutV (ns.map V.int) none (some (m : Int)) = (ns.take m).map V.int := fun m hm => by
      rw [cut_to (by rw [List.length_map]; exact hm), List.map_take]
    have cF : ∀ m : Nat, m ≤ ns.length → cutV (ns.map V.int) (some (m : Int)) none = (ns.drop m).map V.int := fun m hm => by
      rw [cut_from (by rw [List.length_map]; exact hm), List.map_drop]
    have one : ((1 : Nat) : Int) = 1 := rfl
    have fin : ∀ (x5 : Option V), (∀ H', Same H1 H' → GoT (tSl (rSlA K) (tVar 1) tNoPart (tPart (tVar 2))) [some (.ref d), some (.ref a), some (.int (j : Int)), some (.int ((ns.length : Nat) : Int)), x5] H' ((ns.take j).map V.int)) ∧ (∀ H', Same H1 H' → GoT (tSl (rSlA K) (tVar 1) (tPart (tOp (rI0 fun i j => .int (i + j)) (tVar 2) (tC (.int 1)))) tNoPart) [some (.ref d), some (.ref a), some (.int (j : Int)), some (.int ((ns.length : Nat) : Int)), x5] H' ((ns.drop (j + 1)).map V.int)) ∧ (∀ H', Same H1 H' → GoT (tSl (rSlA K) (tVar 1) (tPart (tC (.int 1))) tNoPart) [some (.ref d), some (.ref a), some (.int (j : Int)), some (.int ((ns.length : Nat) : Int)), x5] H' ((ns.drop 1).map V.int)) := fun x5 => by
      refine ⟨fun H' S Q' kQ => ?_, fun H' S Q' kQ => ?_, fun H' S Q' kQ => ?_⟩
      · refine ⟨_, rfl, _, rfl, (j : Int), rfl, slA_tr (fa S) fun H4 p S4 hp => kQ H4 p S4 ?_⟩
        rw [hp, cT j (by omega)]
      · refine ⟨_, rfl, _, rfl, _, _, rfl, rfl, _, rfl, noPart (slA_tr (fa S) fun H4 p S4 hp => kQ H4 p S4 ?_)⟩
        rw [hp, show (j : Int) + 1 = ((j + 1 : Nat) : Int) by omega, cF (j + 1) (by omega)]
      · refine ⟨_, rfl, _, rfl, noPart (slA_tr (fa S) fun H4 p S4 hp => kQ H4 p S4 ?_)⟩
        rw [hp, ← one, cF 1 (by omega)]
    have ltd : ((ns.take j).map V.int).length ≤ 4 ∧ ((ns.drop (j + 1)).map V.int).length ≤ 4 ∧ ((ns.drop 1).map V.int).length ≤ 4 := by
      refine ⟨?_, ?_, ?_⟩
      · rw [List.length_map, List.length_take]
        omega
      · rw [List.length_map, List.length_drop]
        omega
      · rw [List.length_map, List.length_drop]
        omega
    obtain ⟨lt1, lt2, lt3⟩ := ltd
    obtain ⟨gT, gF, g1⟩ := fin none
    have mid : ∀ {v : V} {te : TE} {σ : St} {tT tF : TE} (H' : Hp), Same H1 H' → (∀ H', Same H1 H' → GoT tT σ H' ((ns.take j).map V.int)) → (∀ H', Same H1 H' → GoT tF σ H' ((ns.drop (j + 1)).map V.int)) → (∀ H', Same H1 H' → ∀ Q : VK, (∀ H4, Same H' H4 → Q v H4) → te σ H' Q) → GoT (tOp (rCatA K) (tOp (rCatA K) tT (tTup (tCons te tNil))) tF) σ H' ((ns.take j).map V.int ++ [v] ++ (ns.drop (j + 1)).map V.int) := fun {v te σ tT tF} H' S g1 g2 g3 => by
      refine goT_cat (goT_cat (g1 H' S) (fun H2 S2 => goT_one (g3 H2 (S.trans S2))) ?_) (fun H2 S2 => g2 H2 (S.trans S2)) ?_
      · show _ + 1 ≤ 10000
        omega
      · rw [List.length_append]
        show _ + 1 + _ ≤ 10000
        omega
    -- the first seven
    refine ⟨_, rfl, a, _, rfl, .inr (SqT.of ha1), fun q1 hq1 => ?_⟩
    have Sa : Same H1 (upd H1 q1 (.lst (ns.map V.int))) := Same.new hq1
    have o1 : Odd d l ns.length (upd H1 q1 (.lst (ns.map V.int))) (.ref q1) := ⟨.list (ns.map PyData.int), fun H' S => .lst (S.kp.get (D1.free hq1) upd_same) (dvAll_ints _), nd_kind rfl, by show (ns.map PyData.int).length ≤ 1000; rw [List.length_map]; omega⟩
    have gV : ∀ {σ : St} (H' : Hp), Same H1 H' → σ[1]? = some (some (.ref a)) → GoT (tVar 1) σ H' (ns.map V.int) := fun H' S e Q' kQ => ⟨_, e, kQ H' a (Same.refl _) (fa S)⟩
    have cst : ∀ (v : V) (H' : Hp) {σ : St}, ∀ Q : VK, (∀ H4, Same H' H4 → Q v H4) → tC v σ H' Q := fun v H' σ Q' kQ => kQ H' (Same.refl _)
    refine goT_cat (gV _ Sa rfl) (fun H2 S2 => goT_one (cst (.int 0) H2)) (by rw [List.length_map]; show _ + 1 ≤ 10000; omega) _ fun H2 t2 S2 ht2 => ?_
    have D2 := (D1.same Sa).same S2
    have o2 : Odd d l ns.length H2 (.ref t2) := odd_flat (ds := ns.map PyData.int ++ [.int 0]) D2 ht2 (fun H' => dvAll_append (dvAll_ints _) (.cons (.int 0) .nil)) (nd_len (by simp)) (by simp; omega)
    have Sb := Sa.trans S2
    refine g1 H2 Sb _ fun H3 t3 S3 ht3 => ?_
    have D3 := D2.same S3
    have o3 : Odd d l ns.length H3 (.ref t3) := odd_flat (ds := (ns.drop 1).map PyData.int) D3 ht3 (fun H' => dvAll_ints _) (nd_len (by simp; omega)) (by simp; omega)
    have Sc := Sb.trans S3
    refine mid (v := .non) (te := tC .non) H3 Sc gT gF (fun H' _ => cst .non H') _ fun H6 t6 S6 ht6 => ?_
    have D6 := D3.same S6
    have o6 : Odd d l ns.length H6 (.ref t6) := odd_flat D6 ht6 (fun H' => mid_dv .non _ _) (nd_mem (mid_mem _ _) (fun i e => by cases e)) (by simp; omega)
    have Sd := Sc.trans S6
    refine mid (v := .int (-1)) (te := tUn (rU fun i => .int (-i)) (tC (.int 1))) H6 Sd gT gF (fun H' _ Q' kQ => ⟨_, rfl, kQ H' (Same.refl _)⟩) _ fun H7 t7 S7 ht7 => ?_
    have D7 := D6.same S7
    have o7 : Odd d l ns.length H7 (.ref t7) := odd_flat D7 ht7 (fun H' => mid_dv (.int (-1)) _ _) (nd_rng (mid_mem _ _) (.inl (by decide))) (by simp; omega)
    have Se := Sd.trans S7
    refine ⟨by show 7 ≤ sizeLine; decide, fun p1 hp1 => ?_⟩
    obtain ⟨gT', gF', g1'⟩ := fin (some (.ref p1))
    have Sf : Same H1 (upd H7 p1 (.lst [.ref q1, .ref t2, .ref t3, .non, .int 0, .ref t6, .ref t7])) := Se.trans (Same.new hp1)
    -- four more
    refine ⟨_, rfl, ?_⟩
    refine mid (v := .int ((ns.length : Nat) : Int)) (te := tVar 3) _ Sf gT' gF' (fun H' _ Q' kQ => ⟨_, rfl, kQ H' (Same.refl _)⟩) _ fun H8 t8 S8 ht8 => ?_
    have D8 := (D7.new (o := HO.lst [.ref q1, .ref t2, .ref t3, .non, .int 0, .ref t6, .ref t7]) hp1).same S8
    have o8 : Odd d l ns.length H8 (.ref t8) := odd_flat D8 ht8 (fun H' => mid_dv (.int _) _ _) (nd_rng (mid_mem _ _) (.inr (Int.le_refl _))) (by simp; omega)
    have Sg := Sf.trans S8
    refine goT_cat (goT_one (cst (.bl false) H8)) (fun H2 S2 => g1' H2 (Sg.trans S2)) (by show 1 + _ ≤ 10000; omega) _ fun H9 t9 S9 ht9 => ?_
    have D9 := D8.same S9
    have o9 : Odd d l ns.length H9 (.ref t9) := odd_flat (ds := [PyData.bool false] ++ (ns.drop 1).map PyData.int) D9 ht9 (fun H' => dvAll_append (.cons (.bl false) .nil) (dvAll_ints _)) (nd_mem (x := .bool false) (by simp) (fun i e => by cases e)) (by simp; omega)
    have Sh := Sg.trans S9
    refine ⟨_, rfl, "0", _, rfl, rfl, mul_ok _ n0 n4, ?_⟩
    refine join_if (fun v H' => Same H9 H' ∧ Odd d l ns.length H' v) (fun Q' kQ => ?_) (fun v H11 ⟨S11, o11⟩ => ?_)
    · refine ⟨_, rfl, _, _, rfl, rfl, _, rfl, ite2 (fun h => ?_) (fun h => ?_)⟩
      · have h1 : (1 : Int) < ((ns.length : Nat) : Int) := of_decide_eq_true h
        refine ⟨_, rfl, _, _, rfl, rfl, by show 1 ≤ sizeLine; decide, fun b hb => ⟨_, rfl, b, _, _, rfl, rfl, upd_same, by omega, by omega, ?_, fun c hc => .inl ⟨c, _, rfl, SqL.of upd_same, fun t ht => ?_⟩⟩⟩
        · rw [Int.toNat_natCast]
          show 1 * ns.length ≤ sizeLine
          exact Nat.le_trans (by omega : _ ≤ 10) (by decide)
        · have S10 := ((Same.new (o := HO.lst [V.int (((ns.length : Nat) : Int) - 1)]) hb).trans (Same.new (o := HO.lst (List.replicate (((ns.length : Nat) : Int)).toNat [V.int (((ns.length : Nat) : Int) - 1)]).flatten) hc)).trans (Same.new (o := HO.tup (List.replicate (((ns.length : Nat) : Int)).toNat [V.int (((ns.length : Nat) : Int) - 1)]).flatten) ht)
          refine kQ _ _ ⟨S10, odd_flat (ds := (List.replicate ns.length (((ns.length : Nat) : Int) - 1)).map PyData.int) (D9.same S10) upd_same (fun H' => ?_) (nd_first (z := ((ns.length : Nat) : Int) - 1) ?_ (by omega)) (by simp; omega)⟩
          · rw [rep_flat, Int.toNat_natCast, ← List.map_replicate (f := V.int)]
            exact dvAll_ints _
          · rw [List.getElem?_map, List.getElem?_replicate, if_pos n0]
            rfl
      · have h1 : ¬ (1 : Int) < ((ns.length : Nat) : Int) := fun q => h (decide_eq_true q)
        refine ⟨by show 0 ≤ sizeLine; decide, fun t ht => kQ _ _ ⟨Same.new ht, odd_flat (ds := []) (D9.same (Same.new ht)) upd_same (fun H' => .nil) (nd_len (by show 0 ≠ ns.length; omega)) (Nat.zero_le _)⟩⟩
    · have Si := Sh.trans S11
      have D11 := D9.same S11
      refine ⟨by show 4 ≤ sizeLine; decide, fun p2 hp2 => ?_⟩
      have S12 : Same H11 (upd H11 p2 (.lst [.ref t8, .ref t9, .str (PySem.Txt.mul "0" ((ns.length : Nat) : Int)), v])) := Same.new hp2
      have hp11 : H11 p1 = some (.lst [.ref q1, .ref t2, .ref t3, .non, .int 0, .ref t6, .ref t7]) := S11 _ _ (S9 _ _ (S8 _ _ upd_same))
      refine ⟨p1, p2, _, _, rfl, rfl, S12 _ _ hp11, upd_same, by show 7 + 4 ≤ sizeLine; decide, fun p3 hp3 => ?_⟩
      obtain ⟨xs, exs⟩ : ∃ xs, xs = [V.ref q1, .ref t2, .ref t3, .non, .int 0, .ref t6, .ref t7] ++ [.ref t8, .ref t9, .str (PySem.Txt.mul "0" ((ns.length : Nat) : Int)), v] := ⟨_, rfl⟩
      rw [← exs]
      obtain ⟨gT2, gF2, g12⟩ := fin (some (.ref p3))
      have S13 := S12.trans (Same.new (o := HO.lst xs) hp3)
      have Sj := Si.trans S13
      -- the last two
      refine ⟨_, rfl, _, rfl, ?_⟩
      refine gT2 _ Sj _ fun Ha ta Sa' hta => ?_
      have Sk := Sj.trans Sa'
      have gj : (ns.map V.int)[((j : Nat) : Int).toNat]? = some (V.int (ns.getD j 0)) := by
        have := item_of (xs := ns) (s := (j : Int)) (by omega) (by omega) (0 : Int)
        rw [List.getElem?_map, this, Int.toNat_natCast]
        rfl
      refine ⟨_, rfl, _, rfl, a, _, _, _, rfl, rfl, SqT.of (fa Sk), atI_int (by omega) gj, by show 1 ≤ sizeLine; decide, fun r hr0 => ⟨by show 1 ≤ sizeLine; decide, fun u hu => ?_⟩⟩
      have Su := (Same.new (o := HO.tup [V.int (ns.getD j 0)]) hr0).trans (Same.new (o := HO.tup [V.ref r]) hu)
      refine catV (Su _ _ hta) upd_same (by show _ + 1 ≤ 10000; omega) fun Hb tb Sb' htb => ?_
      have Sm := (Sk.trans Su).trans Sb'
      refine gF2 Hb Sm _ fun Hc tc Sc' htc => ?_
      refine catV (Sc' _ _ htb) htc (by rw [List.length_append]; show _ + 1 + _ ≤ 10000; omega) fun Hd td Sd' htd => ?_
      have hr1 : Hd r = some (.tup [V.int (ns.getD j 0)]) := Sd' _ _ (Sc' _ _ (Sb' _ _ ((Same.new hu) _ _ upd_same)))
      have Sn := (Sm.trans Sc').trans Sd'
      have Dd := D1.same Sn
      have o12 : Odd d l ns.length Hd (.ref td) := ⟨.tuple ((ns.take j).map PyData.int ++ [.tuple [.int (ns.getD j 0)]] ++ (ns.drop (j + 1)).map PyData.int), fun H' S => .tup (S.kp.get (Dd.off htd) htd) (dvAll_append (dvAll_append (dvAll_ints _) (.cons (.tup (S.kp.get (Dd.off hr1) hr1) (.cons (.int _) .nil)) .nil)) (dvAll_ints _)), nd_mem (mid_mem _ _) (fun i e => by cases e), by simp [itemsD]; omega⟩
      refine ⟨_, rfl, _, rfl, _, rfl, slA_tr (fa Sn) fun He te Se' hte => ?_⟩
      obtain ⟨ms, ems, lms⟩ := cutV_map ns none (some (-1))
      rw [ems] at hte
      have So := Sn.trans Se'
      have nn : ns ≠ [] := fun e => by rw [e] at n0; cases n0
      have zb := canon_range cn (List.getLast_mem nn)
      refine ⟨_, rfl, _, rfl, a, _, -1, _, rfl, rfl, SqT.of (fa So), atI_last nn, ns.getLast nn, rfl, ?_, by show 1 ≤ sizeLine; decide, fun u2 hu2 => ?_⟩
      · have : (ns.getLast nn).natAbs ≤ 3 := by omega
        generalize (ns.getLast nn).natAbs = z at this ⊢
        match z, this with
        | 0, _ => decide
        | 1, _ => decide
        | 2, _ => decide
        | 3, _ => decide
      · refine catV ((Same.new hu2) _ _ hte) upd_same (by rw [List.length_map]; show _ + 1 ≤ 10000; omega) fun Hf tf Sf' htf => ?_
        have Sp' := (So.trans (Same.new (o := HO.tup [V.str (toString (ns.getLast nn))]) hu2)).trans Sf'
        have Df' := D1.same Sp'
        have o13 : Odd d l ns.length Hf (.ref tf) := odd_flat (ds := ms.map PyData.int ++ [.str (toString (ns.getLast nn))]) Df' htf (fun H' => dvAll_append (dvAll_ints _) (.cons (.str _) .nil)) (nd_mem (x := .str (toString (ns.getLast nn))) (by simp) (fun i e => by cases e)) (by simp; omega)
        refine ⟨by show 2 ≤ sizeLine; decide, fun p4 hp4 => ?_⟩
        have Sdf := (Se'.trans (Same.new (o := HO.tup [V.str (toString (ns.getLast nn))]) hu2)).trans Sf'
        have Sjd := (((Sa'.trans Su).trans Sb').trans Sc').trans Sd'
        have S4' := Same.new (o := HO.lst [V.ref td, .ref tf]) hp4
        have hp3' := S4' _ _ (Sdf _ _ (Sjd _ _ (show upd (upd H11 p2 (.lst [.ref t8, .ref t9, .str (PySem.Txt.mul "0" ((ns.length : Nat) : Int)), v])) p3 (.lst xs) p3 = some (HO.lst xs) from upd_same)))
        refine ⟨p3, p4, _, _, rfl, rfl, hp3', upd_same, by rw [exs]; show 11 + 2 ≤ sizeLine; decide, fun p5 hp5 => ?_⟩
        have Sq := (Sp'.trans S4').trans (Same.new (o := HO.lst (xs ++ [V.ref td, .ref tf])) hp5)
        have Dq := D1.same Sq
        refine ⟨d, l, p5, _, rfl, upd_same, (Df'.same S4').free hp5, by rw [exs]; show 0 < 13; decide, by rw [exs]; show 13 ≤ 1000; decide, Dq, fun Hz i vz Dz Sz hv => ?_⟩
        refine k Hz vz Dz ((S1.trans (KP.same Sq).sb).trans Sz) (Odd.go ?_ Sz)
        have hm := mem_of_get hv
        rw [exs] at hm
        have T5 : Same Hf _ := S4'.trans (Same.new (o := HO.lst (xs ++ [V.ref td, .ref tf])) hp5)
        have T4 : Same Hd _ := Sdf.trans T5
        have T3 : Same H11 _ := (S13.trans Sjd).trans T4
        have T2 : Same H9 _ := S11.trans T3
        have T1 : Same H7 _ := ((Same.new (o := HO.lst [.ref q1, .ref t2, .ref t3, .non, .int 0, .ref t6, .ref t7]) hp1).trans (S8.trans S9)).trans T2
        simp only [List.cons_append, List.nil_append, List.mem_cons, List.not_mem_nil, or_false] at hm
        rcases hm with rfl | rfl | rfl | rfl | rfl | rfl | rfl | rfl | rfl | rfl | rfl | rfl | rfl
        · exact o1.same ((((S2.trans S3).trans S6).trans S7).trans T1)
        · exact o2.same (((S3.trans S6).trans S7).trans T1)
        · exact o3.same ((S6.trans S7).trans T1)
        · exact ⟨.none, fun _ _ => .non, nd_kind rfl, Nat.zero_le _⟩
        · exact ⟨.int 0, fun _ _ => .int 0, nd_kind rfl, Nat.zero_le _⟩
        · exact o6.same (S7.trans T1)
        · exact o7.same T1
        · exact o8.same (S9.trans T2)
        · exact o9.same T2
        · exact ⟨.str _, fun _ _ => .str _, nd_kind rfl, Nat.zero_le _⟩
        · exact o11.same T3
        · exact o12.same T4
        · exact o13.same T5
end
end Lk

set_option Elab.async false
set_option linter.all false
set_option maxRecDepth 100000
set_option maxHeartbeats 8000000
namespace Lk
open PySem L2
abbrev s_law_asked : Stmt := top 49
abbrev N_law_asked : List Str := ["form", "machine", "one", "other", "wrong"]
abbrev P_law_asked : List Str := ["form", "machine", "one", "other"]
theorem sc_law_asked : FnScope N_law_asked P_law_asked (defScope s_law_asked) := ⟨rfl, rfl, rfl, by decide +kernel, rfl, by decide +kernel, by decide +kernel⟩
def quP (k : Int) : PyData := .tuple [.str "question", .int k]
def refP (k : Int) : PyData := .tuple [.str "refused", .int k]
abbrev gR : List V → List V → List V := fun vs zs => vs ++ zs.reverse
abbrev uR : List Value → List Value → List Value := fun us ws => us ++ ws.reverse
def spAsk (CM : Addr) : Sp := fun vs H Q _ => ∃ (form : Int) (m : Addr) (x y : V) (d e : PyData) (A : Int) (us : List (Addr × List Int)), vs = [.int form, .ref m, x, y] ∧ MachAt CM H m A us ∧ MOk A us ∧ Dv H x d ∧ Dv H y e ∧ (itemsD d).length ≤ 1000 ∧ (form = 0 → ∀ z ∈ itemsD d, (itemsD z).length ≤ 1000) ∧ (itemsD e).length ≤ 1000 ∧
  (form = 0 → match clRes (us.length : Int) d with
    | some k => ∀ H' v, Same H H' → Dv H' v (quP (k : Int)) → Q v H'
    | none => ∀ H' v R, Same H H' → Dv H' v (rowP R) → LeastFace (rsOf us) A.toNat ((itemsD d).map pairOf) R → Q v H') ∧
  (form = 1 → (¬ IsFace (rsOf us) A.toNat d → ∀ H' v, Same H H' → Dv H' v (refP 0) → Q v H') ∧ (IsFace (rsOf us) A.toNat d → ¬ IsFace (rsOf us) A.toNat e → ∀ H' v, Same H H' → Dv H' v (refP 1) → Q v H') ∧ (IsFace (rsOf us) A.toNat d → IsFace (rsOf us) A.toNat e → ∀ H' v, Same H H' → Dv H' v (rowP (comL [intsD d, intsD e] us.length)) → Q v H')) ∧
  (form = 2 → (¬ IsFace (rsOf us) A.toNat d → ∀ H' v, Same H H' → Dv H' v (refP 0) → Q v H') ∧ (IsFace (rsOf us) A.toNat d → ∀ H' v, Same H H' → Dv H' v (.tuple ((clsR (rsOf us) (intsD d)).map rowP)) → Q v H')) ∧ (form = 0 ∨ form = 1 ∨ form = 2)
section
variable {P : Program} {w : World} {K : PySem.W.Frag} {mg : Str → Option Value} {base : Heap} {CM CQ CR fQ fR : Addr}
theorem ok_asked {f fc fo fm : Addr} {fd fdc fdo fdm : FuncData} (A0 : Df K mg "_law_asked" s_law_asked f fd P_law_asked) (d_c : Df K mg "closed_face" s_closed_face fc fdc P_closed_face) (d_o : Df K mg "common_face" s_common_face fo fdo P_common_face) (d_m : Df K mg "face_machine" s_face_machine fm fdm P_face_machine)
    (k_c : KBn K fdc P_closed_face 0 ["pairs", "machine"] uR gR) (k_o : KBn K fdo P_common_face 0 ["other", "one", "machine"] uR gR) (k_m : KBn K fdm P_face_machine 0 ["face", "machine"] uR gR)
    (G_c : FnOk P w K mg base (L2.CX P w) 6 fc fdc P_closed_face (spClosed CM CQ)) (G_o : FnOk P w K mg base (L2.CX P w) 10 fo fdo P_common_face (spCommon CM CR)) (G_m : FnOk P w K mg base (L2.CX P w) 10 fm fdm P_face_machine (spFaceM CM CR)) (TC : TxC K CM)
    (TQ : PySem.ErrX.ErrTxt K mg "InvalidQuestion" "InvalidQuestion.__init__" CQ fQ) (TR : PySem.ErrX.ErrTxt K mg "Refused" "Refused.__init__" CR fR) (ne : PySem.W.exmOne K (.ref CR) (.ref CQ) = some false) : FnOk P w K mg base CX0 11 f fd P_law_asked (spAsk CM) := by
  refine A0.F.ok sc_law_asked (fun vs H Q E h => ?_) (fun cdv Ar outer s H vs Q E hr h => ?_)
  · obtain ⟨form, m, x, y, d, e, A, us, rfl, _⟩ := h
    rfl
  · obtain ⟨form, m, x, y, d, e, A, us, rfl, M, O, D, De, hz, hz2, hz3, k0, k1, k2, hf⟩ := h
    refine ⟨_, pss_one (ps_try_all (i := 4) (n := "wrong") (tb := fun W => tSeq (tIfS (tTest (tOp rEq (tVar 0) (tC (.int 0)))) (tSeq (tRet (tKw (spClosed CM CQ) gR 2 (WE W) (tCons (tVar 2) (tCons (tVar 1) tNil)))) tNext) tNext)
          (tSeq (tRet (tIf (tTest (tOp rEq (tVar 0) (tC (.int 1)))) (tKw (spCommon CM CR) gR 3 (WE W) (tCons (tVar 3) (tCons (tVar 2) (tCons (tVar 1) tNil)))) (tFld K (tKw (spFaceM CM CR) gR 2 (WE W) (tCons (tVar 2) (tCons (tVar 1) tNil))) "steps"))) tNext))
        (Wo := fun _ _ _ _ => False) (l := [(.ref CQ, fun a cls d => tSeq (tRet (tTup (tCons (tC (.str "question")) (tCons (tByLow CQ a cls d (tVar 4)) tNil)))) tNext), (.ref CR, fun a cls d => tSeq (tRet (tTup (tCons (tC (.str "refused")) (tCons (tByLow CR a cls d (tVar 4)) tNil)))) tNext)]) rfl rfl sc_law_asked.nd rfl rfl takes0
        (fun W pn xe tk _ => pss_cons (ps_if (pt_cmpR op_eq (pv 0) pe_int (nomark _)) (pss_one (ps_ret (by exact (pe_kw (ks := ["pairs", "machine"]) G_c (hr.mono (by decide)) rfl d_c.g d_c.F.kp k_c (fun σ => passAt tk σ) (by exact (pk_cons (pv 2) (pk_cons (pv 1) pk_nil))))))) pss_nil)
          (pss_one (ps_ret (pe_ifExp (pt_cmpR op_eq (pv 0) pe_int (nomark _)) (by exact (pe_kw (ks := ["other", "one", "machine"]) G_o (hr.mono (by decide)) rfl d_o.g d_o.F.kp k_o (fun σ => passAt tk σ) (by exact (pk_cons (pv 3) (pk_cons (pv 2) (pk_cons (pv 1) pk_nil)))))) (pe_fld (by exact (pe_kw (ks := ["face", "machine"]) G_m (hr.mono (by decide)) rfl d_m.g d_m.F.kp k_m (fun σ => passAt tk σ) (by exact (pk_cons (pv 2) (pk_cons (pv 1) pk_nil))))) rfl)))))
        (.cons ⟨rfl, by decide, Or.inl TQ.gC⟩ (fun a oe cls d pn hz hf => pss_one (ps_ret (pe_tup (pa_cons pe_str (pa_cons (pe_byLow TQ hz hf (pv 4)) pa_nil)))))
          (.cons ⟨rfl, by decide, Or.inl TR.gC⟩ (fun a oe cls d pn hz hf => pss_one (ps_ret (pe_tup (pa_cons pe_str (pa_cons (pe_byLow TR hz hf (pv 4)) pa_nil))))) .nil))), ?_⟩
    rcases hf with rfl | rfl | rfl
    · have k0 := k0 rfl
      refine ⟨_, rfl, rfl, _, rfl, ?_⟩
      rw [decide_eq_true (rfl : V.int 0 = V.int 0)]
      refine iteT ⟨_, rfl, _, rfl, rfl, ?_⟩
      refine ⟨m, x, d, A, us, rfl, M, O, D, hz, hz2 rfl, ?_⟩
      cases hc : clRes (us.length : Int) d with
      | some k =>
        rw [hc] at k0
        exact fun H' q S' hq => ⟨true, TQ.te, iteT fun a ha => ⟨_, rfl, rfl, rfl, q, .int (k : Int), rfl, upd_same, by show 2 ≤ sizeLine; decide, fun p hp => k0 _ _ ((S'.trans (Same.new hq)).trans (Same.new hp)) (.tup upd_same (.cons (.str _) (.cons (.int _) .nil)))⟩⟩
      | none =>
        rw [hc] at k0
        exact fun H' t R S' ht F => k0 H' _ R S' (.tup ht (dvAll_ints _)) F
    · obtain ⟨k10, k11, k12⟩ := k1 rfl
      refine ⟨_, rfl, rfl, _, rfl, ?_⟩
      rw [decide_eq_false (show ¬ V.int 1 = V.int 0 from fun e => by injection e with e; cases e)]
      refine iteF ⟨_, rfl, rfl, _, rfl, ?_⟩
      rw [decide_eq_true (rfl : V.int 1 = V.int 1)]
      refine iteT ⟨_, rfl, _, rfl, _, rfl, rfl, ?_⟩
      refine ⟨m, x, y, d, e, A, us, rfl, M, O, D, De, hz, hz3, fun F => ?_, fun F1 F2 => ?_, fun F1 F2 => ?_⟩
      · exact fun H' q S' hq => ⟨false, ne, iteF ⟨true, TR.te, iteT fun a ha => ⟨_, rfl, rfl, rfl, q, .int 0, rfl, upd_same, by show 2 ≤ sizeLine; decide, fun p hp => k10 F _ _ ((S'.trans (Same.new hq)).trans (Same.new hp)) (.tup upd_same (.cons (.str _) (.cons (.int _) .nil)))⟩⟩⟩
      · exact fun H' q S' hq => ⟨false, ne, iteF ⟨true, TR.te, iteT fun a ha => ⟨_, rfl, rfl, rfl, q, .int 1, rfl, upd_same, by show 2 ≤ sizeLine; decide, fun p hp => k11 F1 F2 _ _ ((S'.trans (Same.new hq)).trans (Same.new hp)) (.tup upd_same (.cons (.str _) (.cons (.int _) .nil)))⟩⟩⟩
      · exact fun H' t S' ht => k12 F1 F2 H' _ S' (.tup ht (dvAll_ints _))
    · obtain ⟨k20, k21⟩ := k2 rfl
      refine ⟨_, rfl, rfl, _, rfl, ?_⟩
      rw [decide_eq_false (show ¬ V.int 2 = V.int 0 from fun e => by injection e with e; cases e)]
      refine iteF ⟨_, rfl, rfl, _, rfl, ?_⟩
      rw [decide_eq_false (show ¬ V.int 2 = V.int 1 from fun e => by injection e with e; cases e)]
      refine iteF ⟨_, rfl, _, rfl, rfl, ?_⟩
      refine ⟨m, x, d, A, us, rfl, M, O, D, hz, fun ns en F H' m' ws S' M' e' => ?_, fun F => ?_⟩
      · obtain ⟨dx, t, h1, h2, h3⟩ := M'
        refine ⟨m', CM, dx, _, _, rfl, h1, TC.cl, TC.n3, fld_s _ _ _, ?_⟩
        refine k21 F H' _ S' ?_
        rw [en, intsD_tuple, ← e']
        exact .tup h2 (dv_rowsT h3)
      · exact fun H' q S' hq => ⟨false, ne, iteF ⟨true, TR.te, iteT fun a ha => ⟨_, rfl, rfl, rfl, q, .int 0, rfl, upd_same, by show 2 ≤ sizeLine; decide, fun p hp => k20 F _ _ ((S'.trans (Same.new hq)).trans (Same.new hp)) (.tup upd_same (.cons (.str _) (.cons (.int _) .nil)))⟩⟩⟩
end
end Lk

set_option Elab.async false
set_option linter.all false
set_option maxRecDepth 100000
set_option maxHeartbeats 4000000
namespace Lk
open PySem L2
mutual
theorem dv_dp {K : PySem.W.Frag} {H : Hp} : ∀ {v : V} {d : PyData}, Dv H v d → PyData.canLay0 d = true → Dp K H v d
  | _, _, .non, _ => .non
  | _, _, .bl b, _ => .bl b
  | _, _, .int i, _ => .int i
  | _, _, .str x, _ => .str x
  | _, _, .lst h t, e => .lst (SqL.of h) (dv_dpAll t e)
  | _, _, .tup h t, e => .tup (SqT.of h) (dv_dpAll t e)
  | _, _, .dct h, e => by cases e
theorem dv_dpAll {K : PySem.W.Frag} {H : Hp} : ∀ {vs : List V} {ds : List PyData}, DvAll H vs ds → PyData.canLayAll0 ds = true → DpAll K H vs ds
  | _, _, .nil, _ => .nil
  | _, _, .cons (d := d) (ds := ds) h t, e => by
    have e' : (PyData.canLay0 d && PyData.canLayAll0 ds) = true := e
    rw [Bool.and_eq_true] at e'
    exact .cons (dv_dp h e'.1) (dv_dpAll t e'.2)
end
theorem Game.mok {CM : Addr} {H : Hp} {d l a m : Addr} {A : Nat} {ts us : List (Addr × List Int)} (g : Game CM H d l a m A ts us) : MOk (A : Int) us := by
  have h5 := g.A5
  have h0 := g.A0
  have e : us.length = ts.length := by rw [← rsOf_len us, g.e, rsOf_len]
  have hz := g.hz
  exact ⟨by omega, by omega, by omega, by rw [Int.toNat_natCast, g.e]; exact g.R.rs⟩
theorem normG {g : TG} {u : V} {σ σ' : St} {H : Hp} {f : St → Hp → Prop} (e : σ = σ') (h : g u σ' H f) : g u σ H f := by
  rw [e]
  exact h
theorem iteS {y z : Str} {A B : Prop} (e : y = z) (k : B) : if (!decide (V.str y = V.str z)) = true then A else B := by
  rw [e, decide_eq_true rfl]
  exact iteF k
def bStr (b : Bool) : Str := if b then "True" else "False"
def rReprB : List V → Hp → VK → Prop := fun xs H Q => ∃ b, xs = [.bl b] ∧ Q (.str (bStr b)) H
theorem call_reprB {X : Cx} : CallR X (.builtin "repr") rReprB := by
  intro pins s σ H xs us Q I r h
  obtain ⟨b, rfl, q⟩ := h
  obtain ⟨u, rfl, ru⟩ := Vals.one r
  cases ru
  refine PySem.P.repr_of_bool ⟨.str (bStr b), H, I.tok _, ?_, q⟩
  unfold bStr
  cases b
  · exact ⟨s.toks, rfl⟩
  · exact ⟨s.toks, rfl⟩
/-! ### what is told, and shown -/
inductive Told : PyData → Prop
  | tup (ns : List Int) (h : ∀ z ∈ ns, z.natAbs < 2 ^ 30) (hl : ns.length ≤ 10000) : Told (rowP ns)
  | rows (rs : List (List Int)) (h : ∀ r ∈ rs, r.length ≤ 5 ∧ ∀ z ∈ r, z.natAbs < 2 ^ 30) (hl : rs.length ≤ 1000) : Told (.tuple (rs.map rowP))
  | qu (k : Int) (h : k.natAbs < 2 ^ 30) : Told (quP k)
  | ref (k : Int) (h : k.natAbs < 2 ^ 30) : Told (refP k)
theorem Told.lay {d : PyData} (t : Told d) : PyData.canLay0 d = true := by
  cases t with
  | tup ns h hl => exact (lay_ints ns).1
  | rows rs h hl => exact canLay_rows rs
  | qu k h =>
    show (PyData.canLay0 (.str "question") && (true && true)) = true
    rw [show PyData.canLay0 (.str "question") = true by decide +kernel] <;> rfl
  | ref k h =>
    show (PyData.canLay0 (.str "refused") && (true && true)) = true
    rw [show PyData.canLay0 (.str "refused") = true by decide +kernel] <;> rfl
theorem Told.dp {K : PySem.W.Frag} {H : Hp} {v : V} {d : PyData} (t : Told d) (x : Dv H v d) : Dp K H v d := dv_dp x t.lay
theorem Told.ref' {H : Hp} {v : V} {d : PyData} (t : Told d) (x : Dv H v d) : ∃ a, v = .ref a := by
  cases t with
  | tup => cases x with | tup _ _ => exact ⟨_, rfl⟩
  | rows => cases x with | tup _ _ => exact ⟨_, rfl⟩
  | qu => cases x with | tup _ _ => exact ⟨_, rfl⟩
  | ref => cases x with | tup _ _ => exact ⟨_, rfl⟩
theorem sh_word {s : Str} {k : Int} (h1 : (PyData.str s).showable = true) (h2 : (PyData.str s).leavesShort 13 = true) (h3 : (PyData.str s).weight ≤ 100) (h : k.natAbs < 2 ^ 30) : Sh (.tuple [.str s, .int k]) := by
  obtain ⟨g1, g2⟩ := show_int h
  have g3 := weight_int h
  refine ⟨?_, rfl, ?_, ?_, by show max 0 (max 0 0) + 1 ≤ 8; decide⟩
  · show ((PyData.str s).showable && ((PyData.int k).showable && true)) = true
    rw [h1, g1] <;> rfl
  · show ((PyData.str s).leavesShort 13 && ((PyData.int k).leavesShort 13 && true)) = true
    rw [h2, g2] <;> rfl
  · show (PyData.str s).weight + 1 + ((PyData.int k).weight + 1 + 0) ≤ 1000000
    omega
theorem Told.sh {d : PyData} (t : Told d) : Sh d := by
  cases t with
  | tup ns h hl => exact sh_row h hl
  | rows rs h hl =>
    obtain ⟨h1, h2, h3, h4⟩ := show_rows (m := 5) h
    refine ⟨h1, h2, h3, ?_, ?_⟩
    · show PyData.weightAll (rs.map rowP) ≤ 1000000
      have : (32 * 5 + 1) * rs.length ≤ (32 * 5 + 1) * 1000 := Nat.mul_le_mul_left _ hl
      omega
    · show PyData.depthAll (rs.map rowP) + 1 ≤ 8
      have := depth_rows rs
      omega
  | qu k h => exact sh_word (by decide +kernel) (by decide +kernel) (by decide +kernel) h
  | ref k h => exact sh_word (by decide +kernel) (by decide +kernel) (by decide +kernel) h
/-! ### faces among all divisions -/
noncomputable def facesL (rs : List (List Int)) (A n : Nat) : List (List Int) := (partsL n).filter fun p => @decide (FaceL rs A p) (Classical.propDecidable _)
theorem mem_faces {rs : List (List Int)} {A n : Nat} {p : List Int} : p ∈ facesL rs A n ↔ (p.length = n ∧ kerG p = p) ∧ FaceL rs A p := by
  unfold facesL
  rw [List.mem_filter, mem_parts, @decide_eq_true_iff _ (Classical.propDecidable _)]
theorem face_iff {rs : List (List Int)} {A : Nat} (R : Rs A rs) {L : List Int} (hl : L.length = rs.length) (c : kerG L = L) : FaceL rs A L ↔ Cong rs A L := by
  have at0 : ∀ s, s < rs.length → 0 ≤ L.getD s 0 ∧ L.getD s 0 < (rs.length : Int) ∧ sm L s (L.getD s 0).toNat := fun s hs => by
    have g : L[s]? = some (L.getD s 0) := by rw [List.getD_eq_getElem?_getD, List.getElem?_eq_getElem (by omega)] <;> rfl
    obtain ⟨c0, c1, c2⟩ := canon_at c g
    refine ⟨c0, by omega, ?_⟩
    unfold sm
    rw [g, c2]
  constructor
  · intro F i j hi hj h x hx
    obtain ⟨i0, i1, i2⟩ := at0 i hi
    obtain ⟨j0, j1, j2⟩ := at0 j hj
    have e : L.getD i 0 = L.getD j 0 := (getD_sm (by omega) (by omega)).mpr h
    have r1 := R.stp (s := (i : Int)) (c := (x : Int)) (by omega) (by omega) (by omega) (by omega)
    have r2 := R.stp (s := (j : Int)) (c := (x : Int)) (by omega) (by omega) (by omega) (by omega)
    have f1 := F i x hi hx
    have f2 := F j x hj hx
    unfold faceAt at f1 f2
    rw [← e] at f2
    exact (getD_sm (by omega) (by omega)).mp (f1.trans f2.symm)
  · intro C s x hs hx
    obtain ⟨s0, s1, s2⟩ := at0 s hs
    have h := C s (L.getD s 0).toNat hs (by omega) s2 x hx
    rw [show (((L.getD s 0).toNat : Nat) : Int) = L.getD s 0 by omega] at h
    have r1 := R.stp (s := (s : Int)) (c := (x : Int)) (by omega) (by omega) (by omega) (by omega)
    have r2 := R.stp (s := L.getD s 0) (c := (x : Int)) s0 s1 (by omega) (by omega)
    exact (getD_sm (by omega) (by omega)).mpr h
theorem zeros_face (rs : List (List Int)) (A n : Nat) : List.replicate n (0 : Int) ∈ facesL rs A n := by
  have z : ∀ i : Nat, (List.replicate n (0 : Int)).getD i 0 = 0 := fun i => by
    rw [List.getD_eq_getElem?_getD, List.getElem?_replicate]
    by_cases h : i < n
    · rw [if_pos h]
      rfl
    · rw [if_neg h]
      rfl
  refine mem_faces.mpr ⟨⟨List.length_replicate, ?_⟩, fun s x _ _ => ?_⟩
  · unfold kerG
    apply List.ext_getElem?
    intro i
    rw [List.getElem?_map, List.getElem?_replicate]
    by_cases h : i < n
    · rw [if_pos h]
      have hm : (0 : Int) ∈ List.replicate n (0 : Int) := List.mem_replicate.mpr ⟨by omega, rfl⟩
      have := idx_le (xs := List.replicate n (0 : Int)) (i := 0) (x := 0) (by rw [List.getElem?_replicate, if_pos (by omega)])
      show some (((List.replicate n (0 : Int)).idxOf 0 : Nat) : Int) = some 0
      congr 1
      omega
    · rw [if_neg h]
      rfl
  · unfold faceAt
    rw [z, z]
theorem isFace_row {rs : List (List Int)} {A : Nat} {p : List Int} : IsFace rs A (rowP p) ↔ p ∈ facesL rs A rs.length := by
  rw [mem_faces]
  constructor
  · rintro ⟨ns, e, h1, h2, h3⟩
    have e : p.map PyData.int = ns.map PyData.int := by injection e
    have e : p = ns := by
      have := congrArg (List.map intD) e
      rw [intD_ints, intD_ints] at this
      exact this
    rw [e]
    exact ⟨⟨h1, h2⟩, h3⟩
  · rintro ⟨⟨h1, h2⟩, h3⟩
    exact ⟨p, rfl, h1, h2, h3⟩
theorem any_rows (fs : List (List Int)) (p : List Int) : ((fs.map rowP).any fun z => PyData.eqv z (rowP p)) = true ↔ p ∈ fs := by
  rw [List.any_eq_true]
  constructor
  · rintro ⟨z, hz, e⟩
    obtain ⟨q, hq, rfl⟩ := List.mem_map.mp hz
    rw [eqv_row2, decide_eq_true_iff] at e
    rw [← e]
    exact hq
  · intro h
    exact ⟨rowP p, List.mem_map.mpr ⟨p, h, rfl⟩, by rw [eqv_row2]; exact decide_eq_true rfl⟩
theorem bool_eq {a b : Bool} {P : Prop} (h1 : a = true ↔ P) (h2 : b = true ↔ P) : a = b := by
  cases a <;> cases b
  · rfl
  · exact absurd (h1.mpr (h2.mp rfl)) (by decide)
  · exact absurd (h2.mpr (h1.mp rfl)) (by decide)
  · rfl
/-- those that hold the pairs -/
noncomputable def holdL (rs : List (List Int)) (A n : Nat) (ps : List (Int × Int)) : List (List Int) := (facesL rs A n).filter fun p => ps.all fun q => decide (p.getD q.1.toNat 0 = p.getD q.2.toNat 0)
theorem mem_hold {rs : List (List Int)} {A : Nat} {ps : List (Int × Int)} (ip : InP rs.length ps) {p : List Int} : p ∈ holdL rs A rs.length ps ↔ p ∈ facesL rs A rs.length ∧ Holds ps p := by
  unfold holdL
  rw [List.mem_filter, List.all_eq_true]
  constructor
  · rintro ⟨h1, h2⟩
    have hl := (mem_faces.mp h1).1.1
    refine ⟨h1, fun q hq => ?_⟩
    obtain ⟨w1, w2⟩ := ip q hq
    exact (getD_sm (by omega) (by omega)).mp (of_decide_eq_true (h2 q hq))
  · rintro ⟨h1, h2⟩
    have hl := (mem_faces.mp h1).1.1
    refine ⟨h1, fun q hq => ?_⟩
    obtain ⟨w1, w2⟩ := ip q hq
    exact decide_eq_true ((getD_sm (by omega) (by omega)).mpr (h2 q hq))
theorem due_least {rs : List (List Int)} {A : Nat} (R : Rs A rs) {ps : List (Int × Int)} (ip : InP rs.length ps) {L : List Int} (x : LeastFace rs A ps L) : comL (holdL rs A rs.length ps) rs.length = L ∧ L ∈ facesL rs A rs.length := by
  have h : L ∈ facesL rs A rs.length := mem_faces.mpr ⟨⟨x.len, x.canon⟩, (face_iff R x.len x.canon).mpr x.cong⟩
  refine ⟨com_least x (fun F hF => ?_) ((mem_hold ip).mpr ⟨h, x.holds⟩), h⟩
  obtain ⟨h1, h2⟩ := (mem_hold ip).mp hF
  obtain ⟨⟨g1, g2⟩, g3⟩ := mem_faces.mp h1
  exact ⟨g1, (face_iff R g1 g2).mp g3, h2⟩
end Lk

set_option Elab.async false
set_option linter.all false
set_option maxRecDepth 100000
set_option maxHeartbeats 8000000
namespace Lk
open PySem L2
abbrev s_law : Stmt := top 51
abbrev N_law : List Str := ["script", "deal", "commands", "steps", "machine", "many", "parts", "faces", "part", "one", "other", "bad", "pairs", "turn", "holding", "face", "pair", "told", "due", "row", "at", "wrong", "later"]
abbrev P_law : List Str := ["script"]
theorem sc_law : FnScope N_law P_law (defScope s_law) := ⟨rfl, rfl, rfl, by decide +kernel, rfl, by decide +kernel, by decide +kernel⟩
theorem out_never {P : Program} {w : World} {X : Cx} : ∀ σ, PassesAt (L2.CX P w) X σ ((fun _ => E0) σ) := fun _ _ _ _ _ _ _ ⟨_, _, _, _, _, _, _, _, _, _, _, _, he⟩ => he.elim
theorem out_zero {X : Cx} : ∀ σ, PassesAt CX0 X σ ((fun _ => E0) σ) := fun _ _ _ _ _ _ _ h => h.elim
theorem fm_bind {α β : Type} (f : α → Option β) (xs : List α) : (List.range xs.length).filterMap (fun k => (xs[k]?).bind f) = xs.filterMap f := by
  have h := fm_takeG xs xs.length (Nat.le_refl _)
  rw [List.take_of_length_le (Nat.le_refl _)] at h
  have e : xs.filterMap f = ((List.range xs.length).filterMap fun k => xs[k]?).filterMap f := by rw [h]
  rw [e, List.filterMap_filterMap]
theorem fm_if {α β : Type} (p : α → Bool) (f : α → β) : ∀ xs : List α, (xs.filterMap fun x => if p x = true then some (f x) else none) = (xs.filter p).map f
  | [] => rfl
  | x :: xs => by
    have ih := fm_if p f xs
    by_cases h : p x = true
    · simp [h, ih]
    · simp [h, ih]
noncomputable def fcB (rs : List (List Int)) (A : Nat) (p : List Int) : Bool := @decide (FaceL rs A p) (Classical.propDecidable _)
theorem fcB_iff {rs : List (List Int)} {A : Nat} {p : List Int} : fcB rs A p = true ↔ FaceL rs A p := @decide_eq_true_iff _ (Classical.propDecidable _)
/-- a list of tuples that outlives draws -/
structure ListK (d l : Addr) (H : Hp) (p : Addr) (ts : List (Addr × List Int)) : Prop where
  L : ListT H p ts
  np : ¬ dl d l p
  nt : ∀ t ∈ ts, ¬ dl d l t.1
theorem ListK.go {d l : Addr} {H H' : Hp} {p : Addr} {ts : List (Addr × List Int)} (x : ListK d l H p ts) (S : SB d l H H') : ListK d l H' p ts := ⟨⟨S.kp.get x.np x.L.top, fun t ht => S.kp.get (x.nt t ht) (x.L.row t ht)⟩, x.np, x.nt⟩
theorem sbS {d l : Addr} {H H' : Hp} (S : Same H H') : SB d l H H' := (KP.same S).sb
def pairP (p : Int × Int) : PyData := .tuple [.int p.1, .int p.2]
theorem pairD_ok {n : Nat} {p : Int × Int} (h : (0 ≤ p.1 ∧ p.1 < (n : Int)) ∧ (0 ≤ p.2 ∧ p.2 < (n : Int))) : pairD (n : Int) (pairP p) = true := by
  obtain ⟨⟨h1, h2⟩, h3, h4⟩ := h
  show (true && (decide (((2 : Nat) : Int) = 2) && ((decide (0 ≤ p.1) && decide (p.1 < (n : Int))) && ((decide (0 ≤ p.2) && decide (p.2 < (n : Int))) && true)))) = true
  rw [decide_eq_true h1, decide_eq_true h2, decide_eq_true h3, decide_eq_true h4]
  rfl
theorem badP_all {n : Nat} : ∀ {ps : List (Int × Int)} {b : Nat}, InP n ps → badP (n : Int) (ps.map pairP) b = none
  | [], _, _ => rfl
  | p :: ps, b, h => by
    rw [List.map_cons, badP_cons, if_pos (pairD_ok (h p List.mem_cons_self))]
    exact badP_all fun q hq => h q (List.mem_cons_of_mem _ hq)
theorem pairOf_map (ps : List (Int × Int)) : (ps.map pairP).map pairOf = ps := by
  rw [List.map_map]
  have : ∀ p ∈ ps, (pairOf ∘ pairP) p = p := fun p _ => rfl
  rw [List.map_congr_left this]
  simp
theorem badP_at {n : Nat} {e : PyData} (he : pairD (n : Int) e = false) : ∀ {ps : List (Int × Int)} {post : List PyData} {b : Nat}, InP n ps → badP (n : Int) (ps.map pairP ++ e :: post) b = some (b + ps.length)
  | [], post, b, _ => by
    show badP (n : Int) (e :: post) b = some (b + 0)
    rw [badP_cons, if_neg (by rw [he]; decide)]
    rfl
  | p :: ps, post, b, h => by
    show badP (n : Int) (pairP p :: (ps.map pairP ++ e :: post)) b = some (b + (ps.length + 1))
    rw [badP_cons, if_pos (pairD_ok (h p List.mem_cons_self)), badP_at he fun q hq => h q (List.mem_cons_of_mem _ hq)]
    congr 1
    omega
/-- a list of pairs that outlives draws -/
structure PairK (d l : Addr) (H : Hp) (p : Addr) (as : List Addr) (ps : List (Int × Int)) : Prop where
  L : H p = some (.lst (as.map V.ref))
  pr : PairsAt H as ps
  np : ¬ dl d l p
  na : ∀ a ∈ as, ¬ dl d l a
theorem PairsAt.go {d l : Addr} {H H' : Hp} {as : List Addr} {ps : List (Int × Int)} (x : PairsAt H as ps) (na : ∀ a ∈ as, ¬ dl d l a) (S : SB d l H H') : PairsAt H' as ps := ⟨x.1, fun j t p h1 h2 => S.kp.get (na t (List.mem_of_getElem? h1)) (x.2 j t p h1 h2)⟩
theorem PairK.go {d l : Addr} {H H' : Hp} {p : Addr} {as : List Addr} {ps : List (Int × Int)} (x : PairK d l H p as ps) (S : SB d l H H') : PairK d l H' p as ps := ⟨S.kp.get x.np x.L, x.pr.go x.na S, x.np, x.na⟩
theorem pairs_from {d l : Addr} {H : Hp} {n : Nat} : ∀ {ys : List V}, (∀ (i : Nat) y, ys[i]? = some y → ∃ (t : Addr) (p : Int × Int), y = .ref t ∧ ¬ dl d l t ∧ H t = some (.tup [.int p.1, .int p.2]) ∧ ((0 ≤ p.1 ∧ p.1 < (n : Int)) ∧ (0 ≤ p.2 ∧ p.2 < (n : Int)))) → ∃ (as : List Addr) (ps : List (Int × Int)), ys = as.map V.ref ∧ PairsAt H as ps ∧ (∀ a ∈ as, ¬ dl d l a) ∧ InP n ps
  | [], _ => ⟨[], [], rfl, ⟨rfl, fun j t p h => by simp at h⟩, (fun a h => by cases h), (fun p h => by cases h)⟩
  | y :: ys, h => by
    obtain ⟨t, p, rfl, h1, h2, h3⟩ := h 0 y rfl
    obtain ⟨as, ps, rfl, e2, e3, e4⟩ := pairs_from (ys := ys) fun i z hz => h (i + 1) z hz
    refine ⟨t :: as, p :: ps, rfl, ⟨by simp [e2.1], fun j u q g1 g2 => ?_⟩, fun a ha => ?_, fun q hq => ?_⟩
    · cases j with
      | zero =>
        obtain rfl := Option.some.inj g1
        obtain rfl := Option.some.inj g2
        exact h2
      | succ j => exact e2.2 j u q g1 g2
    · rcases List.mem_cons.mp ha with rfl | ha
      · exact h1
      · exact e3 a ha
    · rcases List.mem_cons.mp hq with rfl | hq
      · exact h3
      · exact e4 q hq
theorem pairs_dv {H : Hp} : ∀ {as : List Addr} {ps : List (Int × Int)}, PairsAt H as ps → DvAll H (as.map V.ref) (ps.map pairP)
  | [], [], _ => .nil
  | [], _ :: _, h => by cases h.1
  | _ :: _, [], h => by cases h.1
  | a :: as, p :: ps, h => by
    refine .cons (.tup (h.2 0 a p rfl rfl) (.cons (.int _) (.cons (.int _) .nil))) (pairs_dv ⟨Nat.succ.inj h.1, fun j t q h1 h2 => h.2 (j + 1) t q h1 h2⟩)
theorem joinNPar {te : TE} {tr : TA} {rest : TS} {D : Ends} {i j i0 : Nat} {v0 : V} {σ : St} {H : Hp} {f : St → Hp → Prop} (e : f = tSeq (tPar i j (tCons te tr)) rest D) (R : V → Hp → Prop) (h : ∀ Q' : VK, (∀ v H', R v H' → Q' v H') → te (σ.set i0 (some v0)) H Q')
    (k : ∀ v H', R v H' → tr (σ.set i0 (some v0)) H' fun xs H2 => ∃ u w, v :: xs = [u, w] ∧ rest D (((σ.set i0 (some v0)).set i (some u)).set j (some w)) H2) : gName i0 v0 σ H f := by
  subst e
  exact h _ k
theorem iteV {x y : V} {A B : Prop} (e : x = y) (k : B) : if (!decide (x = y)) = true then A else B := by
  rw [decide_eq_true e]
  exact iteF k
theorem comL_len (ps : List (List Int)) (n : Nat) : (comL ps n).length = n := by
  unfold comL
  rw [ker_len, colsL_len]
theorem comL_canon (ps : List (List Int)) (n : Nat) : kerG (comL ps n) = comL ps n := ker_ker _
theorem pd_len {n : Int} {ds : List PyData} (h : ds.length ≠ 2) : pairD n (.tuple ds) = false := by
  show (true && (decide (((ds.length : Nat) : Int) = 2) && _)) = false
  rw [decide_eq_false (by omega)]
  rfl
theorem pd_bad {n : Int} {ds : List PyData} {e : PyData} (hm : e ∈ ds) (he : isB n e = false) : pairD n (.tuple ds) = false := by
  show (true && (decide (((ds.length : Nat) : Int) = 2) && ds.all (isB n))) = false
  have : ds.all (isB n) = false := by
    cases h : ds.all (isB n) with
    | false => rfl
    | true =>
      have := List.all_eq_true.mp h e hm
      rw [he] at this
      cases this
  rw [this, Bool.and_false, Bool.and_false]
theorem pd_kind {n : Int} {e : PyData} (h : isT e = false) : pairD n e = false := by
  unfold pairD
  rw [h]
  rfl
def BadP (d l : Addr) (n : Nat) (H : Hp) (v : V) : Prop := ∃ e, KDv d l H v e ∧ pairD (n : Int) e = false ∧ (itemsD e).length ≤ 1000
theorem bad_flat {d l t : Addr} {n : Nat} {H : Hp} {ys : List V} {ds : List PyData} (D : DealAt H d l) (h : H t = some (.tup ys)) (hd : ∀ H', DvAll H' ys ds) (no : pairD (n : Int) (.tuple ds) = false) (hl : ds.length ≤ 1000) : BadP d l n H (.ref t) :=
  ⟨_, fun H' S => .tup (S.kp.get (D.off h) h) (hd H'), no, hl⟩
theorem BadP.same {d l : Addr} {n : Nat} {H H' : Hp} {v : V} (x : BadP d l n H v) (S : Same H H') : BadP d l n H' v := by
  obtain ⟨e, h1, h2⟩ := x
  exact ⟨e, h1.go (KP.same S).sb, h2⟩
theorem bad_l {d l t : Addr} {n : Nat} {H : Hp} (D : DealAt H d l) (h : H t = none) : BadP d l n (upd H t (.lst [.int 0, .int 0])) (.ref t) :=
  ⟨.list [.int 0, .int 0], fun H' S => .lst (S.kp.get (D.free h) upd_same) (.cons (.int _) (.cons (.int _) .nil)), pd_kind rfl, by decide⟩
def spLaw (K : PySem.W.Frag) : Sp := fun vs H Q _ => ∃ (a : Addr) (ns : List Int), vs = [.ref a] ∧ SqL K H a (ns.map V.int) ∧ ns.length ≤ 63 ∧ ∀ H', Q (.bl true) H'
section
variable {P : Program} {w : World} {K : PySem.W.Frag} {mg : Str → Option Value} {base : Heap} {CM CE CQ CR fI : Addr} {fdI : FuncData}
theorem ok_law {f fdr fso fpa fis fif fof fod fan fco fas fcl ffm : Addr} {fd gdr gso gpa gis gif gof god gan gco gas gcl gfm : FuncData} (A0 : Df K mg "law" s_law f fd P_law)
    (d_law_draw : Df K mg "_law_draw" s_law_draw fdr gdr P_law_draw) (d_law_some_machine : Df K mg "_law_some_machine" s_law_some_machine fso gso P_law_some_machine) (d_law_parts : Df K mg "_law_parts" s_law_parts fpa gpa P_law_parts) (d_law_is_face : Df K mg "_law_is_face" s_law_is_face fis gis P_law_is_face) (d_is_face : Df K mg "is_face" s_is_face fif gif P_is_face)
    (d_law_of : Df K mg "_law_of" s_law_of fof gof P_law_of) (d_law_odd_face : Df K mg "_law_odd_face" s_law_odd_face fod god P_law_odd_face) (d_law_any : Df K mg "_law_any" s_law_any fan gan P_law_any) (d_law_common : Df K mg "_law_common" s_law_common fco gco P_law_common) (d_law_asked : Df K mg "_law_asked" s_law_asked fas gas P_law_asked) (d_law_classes : Df K mg "_law_classes" s_law_classes fcl gcl P_law_classes) (d_face_machine : Df K mg "face_machine" s_face_machine ffm gfm P_face_machine)
    (k_f : KBn K gif P_is_face 0 ["value", "machine"] uR gR)
    (G_law_some_machine : FnOk P w K mg base CX0 6 fso gso P_law_some_machine spAnyM) (G_is_face : FnOk P w K mg base CX0 8 fif gif P_is_face (spFace CM)) (G_law_asked : FnOk P w K mg base CX0 11 fas gas P_law_asked (spAsk CM)) (G_face_machine : FnOk P w K mg base (L2.CX P w) 10 ffm gfm P_face_machine (spFaceM CM CR))
    (MC : McT K mg CM fI fdI) (GI : FnOk P w K mg base (L2.CX P w) 7 fI fdI P_Machine___init (spInit CM CE)) (T : Txt mg) (zstr : mg "str" = none) (TC : TxC K CM) : FnG P w K mg base 12 f fd P_law (spLaw K) := by
  have G_law_any : FnOk P w K mg base CX0 1 fan gan P_law_any spAny := ok_any d_law_any T
  have G_law_draw : FnOk P w K mg base CX0 1 fdr gdr P_law_draw (spDraw K) := ok_draw d_law_draw T
  have G_law_of : FnOk P w K mg base CX0 2 fof gof P_law_of spOf := ok_of d_law_of d_law_any T
  have G_law_parts : FnOk P w K mg base CX0 1 fpa gpa P_law_parts spParts := ok_parts d_law_parts T
  have G_law_is_face : FnOk P w K mg base CX0 1 fis gis P_law_is_face (spLFace K) := ok_lface d_law_is_face T
  have G_law_odd_face : FnOk P w K mg base CX0 3 fod god P_law_odd_face spOddF := ok_oddf d_law_odd_face d_law_any d_law_of T zstr
  have G_law_common : FnOk P w K mg base CX0 1 fco gco P_law_common spCommonL := ok_commonL d_law_common T
  have G_law_classes : FnOk P w K mg base CX0 1 fcl gcl P_law_classes (spClassesL K) := ok_classesL d_law_classes T
  refine Fun.okG A0.F sc_law (fun vs H Q E h => ?_) (fun cdv Ar outer s H vs Q E quiet hr h => ?_)
  · obtain ⟨a, ns, rfl, _⟩ := h
    rfl
  · obtain ⟨sa, sn, rfl, hsa, hsn, k⟩ := h
    have hu65 : Ar.units + 3 + 65 < cLine := by have := hr.un; simp only [Around.deeper] at this; omega
    have hu64 : Ar.units + 3 + 64 < cLine := by omega
    have hu : Ar.units + 3 + 16 < cLine := by omega
    have hq : Ar.guards = some [] := quiet
    refine ⟨_, (pss_cons (ps_set (i := 1) sc_law.nd rfl (Or.inr rfl) (pe_call G_law_draw (hr.mono (by decide)) rfl d_law_draw.g d_law_draw.F.kp d_law_draw.b .nil pass0 (pa_cons (pv 0) (pa_cons pe_int pa_nil))))
    (pss_cons (ps_asg (pe_call G_law_some_machine (hr.mono (by decide)) rfl d_law_some_machine.g d_law_some_machine.F.kp d_law_some_machine.b .nil pass0 (pa_cons (pv 1) pa_nil)) (pg_tup rfl (pgs_cons (pg_name (i := 2) sc_law.nd rfl (Or.inl rfl)) (pgs_cons (pg_name (i := 3) sc_law.nd rfl (Or.inr rfl)) pgs_nil))))
    (pss_cons (ps_asg (pe_tup (pa_cons (pe_make MC.mM GI (hr.mono (by decide)) rfl MC.g MC.b .nil (pass_never (P := P) (w := w)) (pa_cons (pv 2) (pa_cons (pv 3) pa_nil))) (pa_cons (pe_callB call_len_seq (by rfl) T.len PySem.boot_len (pa_cons (pv 3) pa_nil)) pa_nil))) (pg_tup rfl (pgs_cons (pg_name (i := 4) sc_law.nd rfl (Or.inl rfl)) (pgs_cons (pg_name (i := 5) sc_law.nd rfl (Or.inr rfl)) pgs_nil))))
    (pss_cons (ps_set (i := 6) sc_law.nd rfl (Or.inl rfl) (pe_call G_law_parts (hr.mono (by decide)) rfl d_law_parts.g d_law_parts.F.kp d_law_parts.b .nil pass0 (pa_cons (pv 5) pa_nil)))
    (pss_cons (ps_setLc (i := 7) (own := [("part", 8)]) (g := gName 8) (tt := tB (tCall (spLFace K) [] E0 (tCons (tVar 3) (tCons (tVar 8) tNil)))) (te := tVar 8) rfl sc_law.nd rfl rfl (sw_true rfl rfl rfl (by decide +kernel)) (pi_list (pv 6)) (blkOk_by (N := N_law) (sc := defScope s_law) (by decide +kernel)) (fun _ _ _ _ _ => (pg_name (i := 8) sc_law.nd rfl (Or.inl rfl))) (fun _ _ _ _ _ => (pts_one (pt_val (pe_call G_law_is_face (hr.mono (by decide)) rfl d_law_is_face.g d_law_is_face.F.kp d_law_is_face.b .nil pass0 (pa_cons (pv 3) (pa_cons (pv 8) pa_nil)))))) (fun _ _ _ _ _ => (pv 8)))
    (pss_cons (ps_for PassesOwn.never rfl (pi_list (pv 6)) (pg_name (i := 8) sc_law.nd rfl (Or.inl rfl))
      (pss_one (ps_if (pt_cmpR op_ne (pe_callB call_reprB (by rfl) T.repr (by decide +kernel) (pa_cons (by exact (pe_kw (ks := ["value", "machine"]) G_is_face (hr.mono (by decide)) rfl d_is_face.g d_is_face.F.kp k_f out_zero (by exact (pk_cons (pv 8) (pk_cons (pv 4) pk_nil))))) pa_nil)) (pe_callB call_reprB (by rfl) T.repr (by decide +kernel) (pa_cons (pe_cmpR (op_inD hu65) (pv 8) (pv 7) rfl) pa_nil)) (nomark _)) (pss_one (ps_ret pe_bl)) pss_nil)))
    (pss_cons (ps_par3 (i := 9) (j := 10) (l := 11) rfl sc_law.nd rfl rfl rfl (by decide) (by decide) (by decide) rfl rfl rfl (pa_cons (pe_call G_law_of (hr.mono (by decide)) rfl d_law_of.g d_law_of.F.kp d_law_of.b .nil pass0 (pa_cons (pv 1) (pa_cons (pv 7) pa_nil))) (pa_cons (pe_call G_law_of (hr.mono (by decide)) rfl d_law_of.g d_law_of.F.kp d_law_of.b .nil pass0 (pa_cons (pv 1) (pa_cons (pv 7) pa_nil))) (pa_cons (pe_call G_law_odd_face (hr.mono (by decide)) rfl d_law_odd_face.g d_law_odd_face.F.kp d_law_odd_face.b .nil pass0 (pa_cons (pv 1) (pa_cons (pe_call G_law_of (hr.mono (by decide)) rfl d_law_of.g d_law_of.F.kp d_law_of.b .nil pass0 (pa_cons (pv 1) (pa_cons (pv 7) pa_nil))) pa_nil))) pa_nil))) rfl)
    (pss_cons (ps_if (pt_cmpR op_notBl (pe_call G_is_face (hr.mono (by decide)) rfl d_is_face.g d_is_face.F.kp d_is_face.b .nil pass0 (pa_cons (pv 4) (pa_cons (pv 11) pa_nil))) pe_bl (nomark _)) (pss_one (ps_ret pe_bl)) pss_nil)
    (pss_cons (ps_set (i := 12) sc_law.nd rfl (Or.inr rfl) (pe_lc (own := [("turn", 13)]) (g := gName 13) (tt := tYes) (te := tTup (tCons (tCall spAny [] E0 (tCons (tVar 1) (tCons (tVar 5) tNil))) (tCons (tCall spAny [] E0 (tCons (tVar 1) (tCons (tVar 5) tNil))) tNil))) rfl sc_law.nd (pi_range1 rfl T.range (pa_cons (pe_call G_law_of (hr.mono (by decide)) rfl d_law_of.g d_law_of.F.kp d_law_of.b .nil pass0 (pa_cons (pv 1) (pa_cons (pe_lst (pa_cons pe_int (pa_cons pe_int (pa_cons pe_int (pa_cons pe_int (pa_cons pe_int pa_nil)))))) pa_nil))) pa_nil)) (blkOk_by (N := N_law) (sc := defScope s_law) (by decide +kernel)) (fun _ _ _ _ _ => (pg_name (i := 13) sc_law.nd rfl (Or.inl rfl))) (fun _ _ _ _ _ => pts_nil) (fun _ _ _ _ _ => (pe_tup (pa_cons (pe_call G_law_any (hr.mono (by decide)) rfl d_law_any.g d_law_any.F.kp d_law_any.b .nil pass0 (pa_cons (pv 1) (pa_cons (pv 5) pa_nil))) (pa_cons (pe_call G_law_any (hr.mono (by decide)) rfl d_law_any.g d_law_any.F.kp d_law_any.b .nil pass0 (pa_cons (pv 1) (pa_cons (pv 5) pa_nil))) pa_nil))))))
    (pss_cons (ps_setLc (i := 14) (own := [("face", 15)]) (g := gName 15) (tt := tB (tCB (rAll K) (tCons (tLc (iList K (tVar 12)) (gName 16) tYes (tOp rEq (tOp (rIxT K) (tVar 15) (tOp (rIxT K) (tVar 16) (tC (.int 0)))) (tOp (rIxT K) (tVar 15) (tOp (rIxT K) (tVar 16) (tC (.int 1))))) [16]) tNil))) (te := tVar 15) rfl sc_law.nd rfl rfl (sw_true rfl rfl rfl (by decide +kernel)) (pi_list (pv 7)) (blkOk_by (N := N_law) (sc := defScope s_law) (by decide +kernel)) (fun _ _ _ _ _ => (pg_name (i := 15) sc_law.nd rfl (Or.inr rfl))) (fun _ _ _ _ _ => (pts_one (pt_val (pe_callB (cr_all rfl) (by rfl) T.all PyProof.Rows.boot_all (pa_cons (pe_lc (own := [("pair", 16)]) (wi := iList K (tVar 12)) (g := gName 16) (tt := tYes) (te := tOp rEq (tOp (rIxT K) (tVar 15) (tOp (rIxT K) (tVar 16) (tC (.int 0)))) (tOp (rIxT K) (tVar 15) (tOp (rIxT K) (tVar 16) (tC (.int 1))))) rfl sc_law.nd (pi_list (pv 12)) (blkOk_by (N := N_law) (sc := { kind := .function, names := [(".0", .local), ("face", .cell), ("all", .globalImplicit), ("pairs", .cell)], isGenerator := false, isCoroutine := false }) (by decide +kernel)) (fun _ _ _ _ _ => (pg_name (i := 16) sc_law.nd rfl (Or.inl rfl))) (fun _ _ _ _ _ => pts_nil) (fun _ _ _ _ _ => (pe_cmpR op_eq (pe_ix ix_tup (pv 15) (pe_ix ix_tup (pv 16) pe_int (fun _ _ => rfl)) (fun _ _ => rfl)) (pe_ix ix_tup (pv 15) (pe_ix ix_tup (pv 16) pe_int (fun _ _ => rfl)) (fun _ _ => rfl)) (nomark _)))) pa_nil))))) (fun _ _ _ _ _ => (pv 15)))
    (pss_cons (ps_par (i := 17) (j := 18) rfl sc_law.nd rfl rfl (by decide) rfl rfl (pa_cons (pe_ifExp (pt_cmpR op_eq (pe_call G_law_any (hr.mono (by decide)) rfl d_law_any.g d_law_any.F.kp d_law_any.b .nil pass0 (pa_cons (pv 1) (pa_cons pe_int pa_nil))) pe_int (nomark _)) (pv 12) (pe_tupleOf (by rfl) T.tuple (pv 12))) (pa_cons (pe_call G_law_common (hr.mono (by decide)) rfl d_law_common.g d_law_common.F.kp d_law_common.b .nil pass0 (pa_cons (pv 14) (pa_cons (pv 5) pa_nil))) pa_nil)) rfl)
    (pss_cons (ps_for PassesOwn.never rfl (pi_range1 rfl T.range (pa_cons pe_int pa_nil)) (pg_name (i := 13) sc_law.nd rfl (Or.inl rfl))
      (pss_one (ps_if (pt_cmpR op_ne (pe_callB (call_repr hq hu) (by rfl) T.repr (by decide +kernel) (pa_cons (pe_call G_law_asked (hr.mono (by decide)) rfl d_law_asked.g d_law_asked.F.kp d_law_asked.b .nil pass0 (pa_cons pe_int (pa_cons (pv 4) (pa_cons (pv 17) (pa_cons pe_non pa_nil))))) pa_nil)) (pe_callB (call_repr hq hu) (by rfl) T.repr (by decide +kernel) (pa_cons (pv 18) pa_nil)) (nomark _)) (pss_one (ps_ret pe_bl)) pss_nil)))
    (pss_cons (ps_if (PW.pt (pw_or (pt_cmpR (op_notInD hu65) (pv 18) (pv 7) rfl) (pw_or1 (pt_cmpR op_ne (pe_callB (call_repr hq hu) (by rfl) T.repr (by decide +kernel) (pa_cons (pe_call G_law_asked (hr.mono (by decide)) rfl d_law_asked.g d_law_asked.F.kp d_law_asked.b .nil pass0 (pa_cons pe_int (pa_cons (pv 4) (pa_cons (pv 9) (pa_cons (pv 10) pa_nil))))) pa_nil)) (pe_callB (call_repr hq hu) (by rfl) T.repr (by decide +kernel) (pa_cons (pe_call G_law_common (hr.mono (by decide)) rfl d_law_common.g d_law_common.F.kp d_law_common.b .nil pass0 (pa_cons (pe_lst (pa_cons (pv 9) (pa_cons (pv 10) pa_nil))) (pa_cons (pv 5) pa_nil))) pa_nil)) (nomark _))))) (pss_one (ps_ret pe_bl)) pss_nil)
    (pss_cons (ps_if (pt_cmpR op_ne (pe_callB (call_repr hq hu) (by rfl) T.repr (by decide +kernel) (pa_cons (pe_call G_law_asked (hr.mono (by decide)) rfl d_law_asked.g d_law_asked.F.kp d_law_asked.b .nil pass0 (pa_cons pe_int (pa_cons (pv 4) (pa_cons (pv 9) (pa_cons pe_non pa_nil))))) pa_nil)) (pe_callB (call_repr hq hu) (by rfl) T.repr (by decide +kernel) (pa_cons (pe_tupleOf (by rfl) T.tuple (pe_lc (own := [("row", 19)]) (g := gName 19) (tt := tYes) (te := tThen (tVar 19) (kTup K)) rfl sc_law.nd (pi_list (pe_call G_law_classes (hr.mono (by decide)) rfl d_law_classes.g d_law_classes.F.kp d_law_classes.b .nil pass0 (pa_cons (pv 3) (pa_cons (pv 9) pa_nil)))) (blkOk_by (N := N_law) (sc := defScope s_law) (by decide +kernel)) (fun _ _ _ _ _ => (pg_name (i := 19) sc_law.nd rfl (Or.inl rfl))) (fun _ _ _ _ _ => pts_nil) (fun _ _ _ _ _ => (pe_tupleOf (by rfl) T.tuple (pv 19))))) pa_nil)) (nomark _)) (pss_one (ps_ret pe_bl)) pss_nil)
    (pss_cons (ps_if (pt_cmpR op_ne (pe_fld (pe_callS G_face_machine (hr.mono (by decide)) rfl d_face_machine.g d_face_machine.F.kp d_face_machine.b (out_never (P := P) (w := w)) (pa_cons (pv 4) (pa_cons (pv 9) pa_nil))) rfl) (pv 2) (nomark _)) (pss_one (ps_ret pe_bl)) pss_nil)
    (pss_cons (ps_if (PW.pt (pw_or (pt_cmpR op_ne (pe_callB (call_repr hq hu) (by rfl) T.repr (by decide +kernel) (pa_cons (pe_call G_law_asked (hr.mono (by decide)) rfl d_law_asked.g d_law_asked.F.kp d_law_asked.b .nil pass0 (pa_cons pe_int (pa_cons (pv 4) (pa_cons (pv 11) (pa_cons pe_non pa_nil))))) pa_nil)) (pe_callB (call_repr hq hu) (by rfl) T.repr (by decide +kernel) (pa_cons (pe_tup (pa_cons pe_str (pa_cons pe_int pa_nil))) pa_nil)) (nomark _)) (pw_or1 (pt_cmpR op_ne (pe_callB (call_repr hq hu) (by rfl) T.repr (by decide +kernel) (pa_cons (pe_call G_law_asked (hr.mono (by decide)) rfl d_law_asked.g d_law_asked.F.kp d_law_asked.b .nil pass0 (pa_cons pe_int (pa_cons (pv 4) (pa_cons (pv 9) (pa_cons (pv 11) pa_nil))))) pa_nil)) (pe_callB (call_repr hq hu) (by rfl) T.repr (by decide +kernel) (pa_cons (pe_tup (pa_cons pe_str (pa_cons pe_int pa_nil))) pa_nil)) (nomark _))))) (pss_one (ps_ret pe_bl)) pss_nil)
    (pss_cons (ps_if (pt_cmpR op_ne (pe_callB (call_repr hq hu) (by rfl) T.repr (by decide +kernel) (pa_cons (pe_call G_law_asked (hr.mono (by decide)) rfl d_law_asked.g d_law_asked.F.kp d_law_asked.b .nil pass0 (pa_cons pe_int (pa_cons (pv 4) (pa_cons (pv 11) (pa_cons pe_non pa_nil))))) pa_nil)) (pe_callB (call_repr hq hu) (by rfl) T.repr (by decide +kernel) (pa_cons (pe_tup (pa_cons pe_str (pa_cons pe_int pa_nil))) pa_nil)) (nomark _)) (pss_one (ps_ret pe_bl)) pss_nil)
    (pss_cons (ps_set (i := 20) sc_law.nd rfl (Or.inl rfl) (pe_call G_law_any (hr.mono (by decide)) rfl d_law_any.g d_law_any.F.kp d_law_any.b .nil pass0 (pa_cons (pv 1) (pa_cons (pe_op op_add (pe_callB call_len_seq (by rfl) T.len PySem.boot_len (pa_cons (pv 12) pa_nil)) pe_int) pa_nil))))
    (pss_cons (ps_set (i := 21) sc_law.nd rfl (Or.inl rfl) (pe_call G_law_of (hr.mono (by decide)) rfl d_law_of.g d_law_of.F.kp d_law_of.b .nil pass0 (pa_cons (pv 1) (pa_cons (pe_lst (pa_cons (pe_tup (pa_cons pe_int pa_nil)) (pa_cons (pe_tup (pa_cons pe_int (pa_cons pe_int (pa_cons pe_int pa_nil)))) (pa_cons (pe_lst (pa_cons pe_int (pa_cons pe_int pa_nil))) (pa_cons (pe_tup (pa_cons pe_int (pa_cons (pv 5) pa_nil))) (pa_cons (pe_tup (pa_cons (pe_un un_neg pe_int) (pa_cons pe_int pa_nil))) (pa_cons pe_non (pa_cons (pe_tup (pa_cons pe_int (pa_cons pe_bl pa_nil))) (pa_cons (pe_tup (pa_cons pe_bl (pa_cons pe_int pa_nil))) (pa_cons (pe_tup (pa_cons pe_str (pa_cons pe_int pa_nil))) (pa_cons pe_int pa_nil))))))))))) pa_nil))))
    (pss_cons (ps_if (pt_cmpR op_ne (pe_callB (call_repr hq hu) (by rfl) T.repr (by decide +kernel) (pa_cons (pe_call G_law_asked (hr.mono (by decide)) rfl d_law_asked.g d_law_asked.F.kp d_law_asked.b .nil pass0 (pa_cons pe_int (pa_cons (pv 4) (pa_cons (pe_op op_cat (pe_op op_cat (pe_op op_cat (pe_callTy call_list_of (by rfl) T.list (by decide +kernel) (pa_cons (pe_slice sl_list (pv 12) po_none (po_some (pv 20))) pa_nil)) (pe_lst (pa_cons (pv 21) pa_nil))) (pe_callTy call_list_of (by rfl) T.list (by decide +kernel) (pa_cons (pe_slice sl_list (pv 12) (po_some (pv 20)) po_none) pa_nil))) (pe_lst (pa_cons pe_non pa_nil))) (pa_cons pe_non pa_nil))))) pa_nil)) (pe_callB (call_repr hq hu) (by rfl) T.repr (by decide +kernel) (pa_cons (pe_tup (pa_cons pe_str (pa_cons (pv 20) pa_nil))) pa_nil)) (nomark _)) (pss_one (ps_ret pe_bl)) pss_nil)
    (pss_cons (ps_set (i := 22) sc_law.nd rfl (Or.inl rfl) (pe_call G_law_asked (hr.mono (by decide)) rfl d_law_asked.g d_law_asked.F.kp d_law_asked.b .nil pass0 (pa_cons pe_int (pa_cons (pv 4) (pa_cons (pv 12) (pa_cons pe_non pa_nil))))))
    (pss_cons (ps_expr (pe_bm PySem.F.plainAttrs_list PySem.F.slot_list_append PySem.F.type_list_append mt_append (pv 12) (pa_cons (pe_tup (pa_cons pe_int (pa_cons (pe_op op_sub (pv 5) pe_int) pa_nil))) pa_nil)))
    (pss_one (ps_ret (pe_and (pe_cmpR (op_eqD hu64) (pv 22) (pv 18) (nomark _)) (pe_one (pe_cmpR op_eq (pe_callB (call_repr hq hu) (by rfl) T.repr (by decide +kernel) (pa_cons (pe_call G_law_asked (hr.mono (by decide)) rfl d_law_asked.g d_law_asked.F.kp d_law_asked.b .nil pass0 (pa_cons pe_int (pa_cons (pv 4) (pa_cons (pe_call G_law_of (hr.mono (by decide)) rfl d_law_of.g d_law_of.F.kp d_law_of.b .nil pass0 (pa_cons (pv 1) (pa_cons (pe_lst (pa_cons pe_non (pa_cons pe_int (pa_cons pe_str (pa_cons pe_dnewK pa_nil))))) pa_nil))) (pa_cons pe_non pa_nil))))) pa_nil)) (pe_callB (call_repr hq hu) (by rfl) T.repr (by decide +kernel) (pa_cons (pe_tup (pa_cons pe_str (pa_cons pe_int pa_nil))) pa_nil)) (nomark _)))))))))))))))))))))))))))), ?_⟩
    refine ⟨_, rfl, sa, sn, 46, rfl, hsa, hsn, by decide, by decide, fun H1 d l D1 S01 nd nl => ?_⟩
    refine ⟨_, rfl, d, l, rfl, D1, fun H2 t g A ts D2 S12 t0 ht N2 G2 A0' A3 hz R2 => ?_⟩
    refine ⟨t, _, rfl, SqT.of ht, rfl, _, _, rfl, _, _, rfl, rfl, ?_⟩
    refine ⟨_, rfl, _, rfl, make_rows (by omega) (by omega) G2 R2.rs (by omega) (fun H3 m us S23 m0 M3 e3 => ?_)⟩
    have lus : us.length = ts.length := by rw [← rsOf_len us, e3, rsOf_len]
    refine ⟨_, rfl, g, _, rfl, .inl (SqL.of (S23 _ _ G2.top)), by show 2 ≤ sizeLine; decide, fun t2 ht2 => ?_⟩
    refine ⟨t2, _, rfl, SqT.of upd_same, rfl, _, _, rfl, _, _, rfl, rfl, ?_⟩
    have S2' : Same H2 (upd H3 t2 (.tup [.ref m, .int (((ts.map fun t => V.ref t.1).length : Nat) : Int)])) := S23.trans (Same.new ht2)
    obtain ⟨H4, eH4⟩ : ∃ H4, H4 = upd H3 t2 (.tup [.ref m, .int (((ts.map fun t => V.ref t.1).length : Nat) : Int)]) := ⟨_, rfl⟩
    rw [← eH4] at S2' ⊢
    have g4 : Game CM H4 d l g m A ts us := ⟨D2.same S2', G2.same S2', D1.free N2.top, fun t ht => D1.free (N2.row t ht), R2, A0', by omega, by omega, M3.same (by rw [eH4]; exact Same.new ht2), e3⟩
    obtain ⟨n, en⟩ : ∃ n : Nat, n = ts.length := ⟨_, rfl⟩
    have n4 : n ≤ 4 := by omega
    have n0 : 0 < n := by rw [en]; exact R2.pos
    refine norm (σ' := [some (.ref sa), some (.ref d), some (.int (A : Int)), some (.ref g), some (.ref m), some (.int (n : Int)), none, none, none, none, none, none, none, none, none, none, none, none, none, none, none, none, none]) (by rw [en, ← List.length_map (as := ts) (f := fun t => V.ref t.1)] <;> rfl) ?_
    -- all divisions
    refine ⟨_, rfl, n, rfl, n4, fun H5 pp ps S45 L5 e5 => ?_⟩
    have O := g4.mok
    have eA : (((A : Int)).toNat) = A := Int.toNat_natCast A
    have eR : rsOf us = rsOf ts := e3
    obtain ⟨rs, ers⟩ : ∃ rs, rs = rsOf ts := ⟨_, rfl⟩
    have lrs : rs.length = n := by rw [ers, rsOf_len, en]
    have Rr : Rs A rs := by rw [ers]; exact R2.rs
    have lps : ps.length = (partsL n).length := by rw [← e5, List.length_map]
    have few := parts_few n4
    have inP : ∀ t ∈ ps, t.2.length = n ∧ kerG t.2 = t.2 := fun t ht => mem_parts.mp (by rw [← e5]; exact List.mem_map.mpr ⟨t, ht, rfl⟩)
    have g5 := g4.same S45
    -- the faces
--[some (.ref sa), some (.ref d), some (.int (A : Int)), some (.ref g), some (.ref m), some (.int (n : Int)), some (.ref pp), none, none, none, none, none, none, none, none, none, none, none, none, none, none, none, none]
    have wl := walk_list (K := K) (a := pp) (xs := ps.map fun t : Addr × List Int => V.ref t.1)
    rw [List.length_map] at wl
    refine ⟨_, rfl, pp, rfl, ⟨_, SqL.of L5.top⟩, fun pF hpF => ?_⟩
    refine lcW1 (fun k => (ps.map fun t : Addr × List Int => V.ref t.1)[k]?) wl (fun k => (ps[k]?).bind fun t => if fcB rs A t.2 = true then some (V.ref t.1) else none) hpF (by omega) (fun H' S => SqL.of (S _ _ L5.top)) ?_ ?_
    · intro k0 x H6 hk S6 hx N Q' kN kQ
      have hu1 := List.getElem?_eq_getElem hk
      rw [List.getElem?_map, hu1] at hx
      obtain rfl := Option.some.inj hx
      obtain ⟨u, eu⟩ : ∃ u, u = ps[k0] := ⟨_, rfl⟩
      rw [← eu] at hu1 ⊢
      have hm := mem_of_get hu1
      obtain ⟨u1, u2⟩ := inP u hm
      have g6 := g5.same S6
      rw [hu1] at kN kQ
      refine ⟨_, rfl, _, rfl, g, u.1, A, ts, u.2, rfl, g6.G, R2, by omega, by omega, SqT.of (S6 _ _ (L5.row u hm)), by omega, fun z hz' => ?_, fun F => ⟨true, rfl, iteT ⟨_, rfl, kQ _ ?_ H6 (Same.refl _)⟩⟩, fun F => ⟨false, rfl, iteF (kN ?_ H6 (Same.refl _))⟩⟩
      · have := canon_range u2 hz'
        omega
      · rw [← ers] at F
        show (if fcB rs A u.2 = true then some (V.ref u.1) else none) = _
        rw [if_pos (fcB_iff.mpr F)]
      · rw [← ers] at F
        show (if fcB rs A u.2 = true then some (V.ref u.1) else none) = _
        rw [if_neg fun q => F (fcB_iff.mp q)]
    · intro H6 S56 e6
      rw [fm_bind, fm_if (fun t : Addr × List Int => fcB rs A t.2) (fun t => V.ref t.1)] at e6
      obtain ⟨fs, efs⟩ : ∃ fs, fs = ps.filter fun t => fcB rs A t.2 := ⟨_, rfl⟩
      rw [← efs] at e6
      have eF : fs.map (·.2) = facesL rs A n := by
        rw [efs]
        show (ps.filter fun t => fcB rs A t.2).map (·.2) = (partsL n).filter fun p => fcB rs A p
        rw [← e5, List.filter_map]
        rfl
      have hfs : ∀ t ∈ fs, t ∈ ps := fun t ht => by
        rw [efs] at ht
        exact (List.mem_filter.mp ht).1
      have L6 : ListT H6 pF fs := ⟨e6, fun t ht => S56 _ _ (L5.row t (hfs t ht))⟩
      have lfs : fs.length ≤ 15 := by
        have := List.length_filter_le (fun t => fcB rs A t.2) ps
        rw [← efs] at this
        omega
      have g6 := g5.same S56
      have K6 : ListK d l H6 pF fs := ⟨L6, g5.D.free hpF, fun t ht => g6.D.off (L6.row t ht)⟩
--[some (.ref sa), some (.ref d), some (.int (A : Int)), some (.ref g), some (.ref m), some (.int (n : Int)), some (.ref pp), some (.ref pF), none, none, none, none, none, none, none, none, none, none, none, none, none, none, none]
      -- is each one a face
      have w2 := walk_list (K := K) (a := pp) (xs := ps.map fun t : Addr × List Int => V.ref t.1)
      rw [List.length_map] at w2
      refine ⟨_, rfl, pp, rfl, ⟨_, SqL.of (S56 _ _ L5.top)⟩, ?_⟩
      refine for_it w2 (fun i σ H' => ∃ v8 : Option V, σ = [some (.ref sa), some (.ref d), some (.int (A : Int)), some (.ref g), some (.ref m), some (.int (n : Int)), some (.ref pp), some (.ref pF), v8, none, none, none, none, none, none, none, none, none, none, none, none, none, none] ∧ Same H6 H') ⟨none, rfl, Same.refl _⟩ (fun i σ H' _ ⟨_, _, S⟩ => SqL.of (S _ _ (S56 _ _ L5.top))) ?_ ?_
      · rintro i x σ H7 H8 hi ⟨v8, rfl, S67⟩ ⟨rfl, hx⟩
        have hu1 := List.getElem?_eq_getElem hi
        have hx : (ps.map fun t : Addr × List Int => V.ref t.1)[i]? = some x := hx
        rw [List.getElem?_map, hu1] at hx
        obtain rfl := Option.some.inj hx
        obtain ⟨u, eu⟩ : ∃ u, u = ps[i] := ⟨_, rfl⟩
        rw [← eu] at hu1 ⊢
        have hm := mem_of_get hu1
        obtain ⟨u1, u2⟩ := inP u hm
        have g7 := g6.same S67
        have hur := S67 _ _ (S56 _ _ (L5.row u hm))
        refine ⟨_, rfl, _, rfl, rfl, m, .ref u.1, rowP u.2, (A : Int), us, rfl, g7.M, O, .tup hur (dvAll_ints _), by show (u.2.map PyData.int).length ≤ 1000; rw [List.length_map]; omega, fun H9 b S79 hb => ?_⟩
        refine ⟨b, rfl, ?_⟩
        have L9 := L6.same (S67.trans S79)
        refine ⟨_, rfl, _, rfl, rowP u.2, (fs.map (·.2)).map rowP, .tup (SqT.of (S79 _ _ hur)) (dpAll_ints _), dp_listT L9, shaped_rowP _, lay_rowsT _, ?_⟩
        refine ⟨_, rfl, rfl, _, rfl, iteS ?_ ⟨_, rfl, S67.trans S79⟩⟩
        congr 1
        rw [eA, eR, ← ers] at hb
        refine bool_eq hb ?_
        rw [any_rows, eF, isFace_row, lrs]
      · rintro σ H7 ⟨v8, rfl, S67⟩
        have g7 := g6.same S67
        have K7 := K6.go (sbS S67)
        have posF : 0 < fs.length := by
          have := List.length_pos_of_mem (zeros_face rs A n)
          rw [← eF, List.length_map] at this
          exact this
        have inF : ∀ t ∈ fs, t.2 ∈ facesL rs A n ∧ t.2.length = n ∧ kerG t.2 = t.2 := fun t ht => by
          have h : t.2 ∈ fs.map (·.2) := List.mem_map.mpr ⟨t, ht, rfl⟩
          rw [eF] at h
          exact ⟨h, (mem_faces.mp h).1⟩
        have getF : ∀ {i : Nat} {v : V}, (fs.map fun t : Addr × List Int => V.ref t.1)[i]? = some v → ∃ t ∈ fs, v = .ref t.1 := fun {i v} h => by
          rw [List.getElem?_map] at h
          cases e : fs[i]? with
          | none => rw [e] at h; cases h
          | some t => rw [e] at h; exact ⟨t, mem_of_get e, (Option.some.inj h).symm⟩
        have lF : ∀ {x : Nat}, x = (fs.map fun t : Addr × List Int => V.ref t.1).length → x = fs.length := fun h => by rw [h, List.length_map]
        -- two faces, and none
        refine ⟨_, rfl, _, rfl, d, l, pF, _, rfl, K7.L.top, K7.np, by rw [List.length_map]; exact posF, by rw [List.length_map]; omega, g7.D, fun H8 i8 v8' D8 S78 h8 => ?_⟩
        obtain ⟨one, mo, rfl⟩ := getF h8
        have K8 := K7.go S78
        refine ⟨_, rfl, _, rfl, d, l, pF, _, rfl, K8.L.top, K8.np, by rw [List.length_map]; exact posF, by rw [List.length_map]; omega, D8, fun H9 i9 v9 D9 S89 h9 => ?_⟩
        obtain ⟨oth, mt, rfl⟩ := getF h9
        have K9 := K8.go S89
        refine ⟨_, rfl, _, rfl, _, rfl, d, l, pF, _, rfl, K9.L.top, K9.np, by rw [List.length_map]; exact posF, by rw [List.length_map]; omega, D9, fun H10 i10 v10 D10 S910 h10 => ?_⟩
        obtain ⟨thr, mh, rfl⟩ := getF h10
        have K10 := K9.go S910
        obtain ⟨fh1, fh2, fh3⟩ := inF thr mh
        refine ⟨d, l, thr.1, thr.2, rfl, D10, K10.L.row thr mh, by omega, by omega, fh3, fun H11 bad D11 S1011 ob => ⟨_, _, _, rfl, ?_⟩⟩
        rw [fh2] at ob
        obtain ⟨eb, kb, nb, zb⟩ := ob
        have S711 : SB d l H7 H11 := ((S78.trans S89).trans S910).trans S1011
        have g11 := g7.go D11 S711
        have K11 := K7.go S711
        refine norm (σ' := [some (.ref sa), some (.ref d), some (.int (A : Int)), some (.ref g), some (.ref m), some (.int (n : Int)), some (.ref pp), some (.ref pF), v8, some (.ref one.1), some (.ref oth.1), some (bad), none, none, none, none, none, none, none, none, none, none, none]) rfl ?_
        refine ⟨_, rfl, _, rfl, m, bad, eb, (A : Int), us, rfl, g11.M, O, kb.dv, zb, fun H12 b S1112 hb => ⟨b, false, rfl, rfl, _, rfl, ?_⟩⟩
        have nF : ¬ IsFace (rsOf us) ((A : Int)).toNat eb := by
          rw [eA, eR, ← ers]
          rintro ⟨ns, q1, q2, q3, _⟩
          exact nb ⟨ns, q1, by rw [q2, lrs], q3⟩
        have b0 : b = false := by
          cases b with
          | false => rfl
          | true => exact absurd (hb.mp rfl) nF
        rw [b0]
        refine iteF ?_
        have g12 := g11.same S1112
        have K12 := K11.go (sbS S1112)
        have kb12 := kb.go (sbS S1112)
        -- pairs of states
        refine ⟨_, rfl, by show 5 ≤ sizeLine; decide, fun q5 hq5 => ?_⟩
        have D12' := g12.D.new (o := HO.lst [V.int 0, .int 1, .int 1, .int 2, .int 3]) hq5
        refine ⟨d, l, q5, _, rfl, upd_same, g12.D.free hq5, by show 0 < 5; decide, by show 5 ≤ 1000; decide, D12', fun H13 i13 v13 D13 S1213 h13 => ?_⟩
        obtain ⟨c, rfl, c3⟩ : ∃ c : Nat, v13 = .int (c : Int) ∧ c ≤ 3 := pick5 (P := fun v => ∃ c : Nat, v = V.int (c : Int) ∧ c ≤ 3) h13 ⟨0, rfl, by decide⟩ ⟨1, rfl, by decide⟩ ⟨1, rfl, by decide⟩ ⟨2, rfl, by decide⟩ ⟨3, rfl, by decide⟩
        have S12b : SB d l H12 H13 := (SB.new (o := HO.lst [V.int 0, .int 1, .int 1, .int 2, .int 3]) hq5).trans S1213
        have g13 := g12.go D13 S12b
        refine ⟨(c : Int), rfl, by omega, by omega, fun pP hpP => ?_⟩
        rw [Int.toNat_natCast]
        have npP := D13.free hpP
        refine lcR (dl d l) (fun H => DealAt H d l) (fun _ y H => ∃ (t : Addr) (p : Int × Int), y = .ref t ∧ ¬ dl d l t ∧ t ≠ pP ∧ H t = some (.tup [.int p.1, .int p.2]) ∧ ((0 ≤ p.1 ∧ p.1 < (n : Int)) ∧ (0 ≤ p.2 ∧ p.2 < (n : Int)))) hpP npP (by omega) D13 (fun H o x => x.upd npP) (fun i y H H' kp ⟨t, p, e1, e2, e3, e4, e5⟩ => ⟨t, p, e1, e2, e3, kp.get (fun q => q.elim e2 e3) e4, e5⟩) ?_ ?_
        · intro i H14 acc hi D14 K14 hacc Q' kQ
          refine ⟨_, rfl, _, rfl, d, l, (n : Int), rfl, by omega, by omega, D14, fun H15 x D15 S15 x0 x1 => ?_⟩
          refine ⟨_, rfl, _, rfl, d, l, (n : Int), rfl, by omega, by omega, D15, fun H16 y D16 S16 y0 y1 => ⟨by show 2 ≤ sizeLine; decide, fun t3 ht3 => ?_⟩⟩
          have Sx := S15.trans S16
          have nt3 := D16.free ht3
          refine kQ _ _ (D16.new ht3) (Sx.kp.trans (KP.new ht3)) ⟨t3, (x, y), rfl, nt3, fun e => ?_, upd_same, ⟨x0, x1⟩, y0, y1⟩
          have := Sx.kp.get npP hacc
          rw [← e, ht3] at this
          cases this
        · intro ys H14 lys hys hyP D14 K14
          obtain ⟨as, prs, rfl, pr14, na14, ip⟩ := pairs_from (d := d) (l := l) (H := H14) (n := n) (ys := ys) fun i y hy => by
            obtain ⟨t, p, e1, e2, _, e4, e5⟩ := hys i y hy
            exact ⟨t, p, e1, e2, e4, e5⟩
          have P14 : PairK d l H14 pP as prs := ⟨hyP, pr14, npP, na14⟩
          have las : as.length ≤ 3 := by
            rw [List.length_map] at lys
            omega
          have lpr : prs.length ≤ 3 := by rw [← pr14.1]; exact las
          have S1314 : SB d l H13 H14 := K14.sb
          have g14 := g13.go D14 S1314
          have S1214 := S12b.trans S1314
          have K14' := K12.go S1214
          have kb14 := kb12.go S1214
          -- those that hold them
          have ipr : InP rs.length prs := by rw [lrs]; exact ip
          have w3 := walk_list (K := K) (a := pF) (xs := fs.map fun t : Addr × List Int => V.ref t.1)
          rw [List.length_map] at w3
--[some (.ref sa), some (.ref d), some (.int (A : Int)), some (.ref g), some (.ref m), some (.int (n : Int)), some (.ref pp), some (.ref pF), v8, some (.ref one.1), some (.ref oth.1), some (bad), some (.ref pP), none, none, none, none, none, none, none, none, none, none]
          refine ⟨_, rfl, pF, rfl, ⟨_, SqL.of K14'.L.top⟩, fun pH hpH => ?_⟩
          refine lcW1 (fun k => (fs.map fun t : Addr × List Int => V.ref t.1)[k]?) w3 (fun k => (fs[k]?).bind fun t => if (prs.all fun q => decide (t.2.getD q.1.toNat 0 = t.2.getD q.2.toNat 0)) = true then some (V.ref t.1) else none) hpH (by omega) (fun H' S => SqL.of (S _ _ K14'.L.top)) ?_ ?_
          · intro k0 x H15 hk S15 hx N Q' kN kQ
            have hu1 := List.getElem?_eq_getElem hk
            rw [List.getElem?_map, hu1] at hx
            obtain rfl := Option.some.inj hx
            obtain ⟨u, eu⟩ : ∃ u, u = fs[k0] := ⟨_, rfl⟩
            rw [← eu] at hu1 ⊢
            have hm := mem_of_get hu1
            obtain ⟨_, u1, u2⟩ := inF u hm
            rw [hu1] at kN kQ
            have P15 := P14.go (sbS S15)
            have hur := S15 _ _ (K14'.L.row u hm)
            refine ⟨_, rfl, pP, rfl, ⟨_, SqL.of P15.L⟩, fun D2 hD2 => ?_⟩
            have w4 := walk_list (K := K) (a := pP) (xs := as.map V.ref)
            rw [List.length_map] at w4
            refine lcW1 (fun k => (as.map V.ref)[k]?) w4 (fun k => (prs.map fun q => V.bl (decide (u.2.getD q.1.toNat 0 = u.2.getD q.2.toNat 0)))[k]?) hD2 (by omega) (fun H' S => SqL.of (S _ _ P15.L)) ?_ ?_
            · intro k1 x H16 hk1 S16 hx1 N2 Q2 _ kQ2
              have hu2 := List.getElem?_eq_getElem hk1
              rw [List.getElem?_map, hu2] at hx1
              obtain rfl := Option.some.inj hx1
              obtain ⟨t, et⟩ : ∃ t, t = as[k1] := ⟨_, rfl⟩
              rw [← et] at hu2 ⊢
              obtain ⟨p, hp⟩ : ∃ p, prs[k1]? = some p := ⟨_, List.getElem?_eq_getElem (by rw [← pr14.1]; exact hk1)⟩
              have htr := (P15.go (sbS S16)).pr.2 k1 t p hu2 hp
              obtain ⟨⟨p10, p11⟩, p20, p21⟩ := ip p (mem_of_get hp)
              have hur2 := S16 _ _ hur
              have gg : ∀ z : Int, 0 ≤ z → z < (n : Int) → (u.2.map V.int)[z.toNat]? = some (V.int (u.2.getD z.toNat 0)) := fun z z0 z1 => by
                rw [List.getElem?_map, item_of z0 (by omega) (0 : Int)]
                rfl
              refine iteT (B := N2 H16) ⟨_, rfl, _, rfl, t, _, 0, .int p.1, rfl, rfl, SqT.of htr, rfl, u.1, _, _, _, rfl, rfl, SqT.of hur2, atI_int p10 (gg _ p10 p11), ?_⟩
              refine ⟨_, rfl, _, rfl, t, _, 1, .int p.2, rfl, rfl, SqT.of htr, rfl, u.1, _, _, _, rfl, rfl, SqT.of hur2, atI_int p20 (gg _ p20 p21), rfl, ?_⟩
              refine kQ2 _ ?_ H16 (Same.refl _)
              rw [List.getElem?_map, hp]
              show some (V.bl (decide (u.2.getD p.1.toNat 0 = u.2.getD p.2.toNat 0))) = _
              congr 2
              by_cases e : u.2.getD p.1.toNat 0 = u.2.getD p.2.toNat 0
              · rw [decide_eq_true e, decide_eq_true (congrArg V.int e)]
              · rw [decide_eq_false e, decide_eq_false fun q => e (by injection q)]
            · intro H16 S16 e16
              rw [fm_get _ (by rw [List.length_map, pr14.1])] at e16
              refine ⟨D2, prs.map fun q => decide (u.2.getD q.1.toNat 0 = u.2.getD q.2.toNat 0), rfl, SqL.of (by rw [e16, List.map_map]; rfl), _, rfl, ?_⟩
              rw [List.all_map]
              show if (prs.all fun q => decide (u.2.getD q.1.toNat 0 = u.2.getD q.2.toNat 0)) = true then _ else _
              cases hb2 : prs.all fun q => decide (u.2.getD q.1.toNat 0 = u.2.getD q.2.toNat 0) with
              | true =>
                refine iteT ⟨_, rfl, kQ _ ?_ H16 S16⟩
                show (if (prs.all fun q => decide (u.2.getD q.1.toNat 0 = u.2.getD q.2.toNat 0)) = true then some (V.ref u.1) else none) = _
                rw [if_pos hb2]
              | false =>
                refine iteF (kN ?_ H16 S16)
                show (if (prs.all fun q => decide (u.2.getD q.1.toNat 0 = u.2.getD q.2.toNat 0)) = true then some (V.ref u.1) else none) = _
                rw [if_neg (by rw [hb2]; decide)]
          · intro H15 S1415 e15
            rw [fm_bind, fm_if (fun t : Addr × List Int => prs.all fun q => decide (t.2.getD q.1.toNat 0 = t.2.getD q.2.toNat 0)) (fun t => V.ref t.1)] at e15
            obtain ⟨hs, ehs⟩ : ∃ hs, hs = fs.filter fun t => prs.all fun q => decide (t.2.getD q.1.toNat 0 = t.2.getD q.2.toNat 0) := ⟨_, rfl⟩
            rw [← ehs] at e15
            have eHs : hs.map (·.2) = holdL rs A n prs := by
              rw [ehs]
              unfold holdL
              rw [← eF, List.filter_map]
              rfl
            have hhs : ∀ t ∈ hs, t ∈ fs := fun t ht => by
              rw [ehs] at ht
              exact (List.mem_filter.mp ht).1
            have lhs : hs.length ≤ 15 := by
              have := List.length_filter_le (fun t : Addr × List Int => prs.all fun q => decide (t.2.getD q.1.toNat 0 = t.2.getD q.2.toNat 0)) fs
              rw [← ehs] at this
              omega
            have g15 := g14.same S1415
            have K15 := K14'.go (sbS S1415)
            have P15 := P14.go (sbS S1415)
            have kb15 := kb14.go (sbS S1415)
            have HL15 : ListK d l H15 pH hs := ⟨⟨e15, fun t ht => K15.L.row t (hhs t ht)⟩, g14.D.free hpH, fun t ht => K15.nt t (hhs t ht)⟩
--[some (.ref sa), some (.ref d), some (.int (A : Int)), some (.ref g), some (.ref m), some (.int (n : Int)), some (.ref pp), some (.ref pF), v8, some (.ref one.1), some (.ref oth.1), some (bad), some (.ref pP), none, some (.ref pH), none, none, none, none, none, none, none, none]
            refine joinNPar (by with_reducible rfl) (fun v H' => DealAt H' d l ∧ SB d l H15 H' ∧ ∃ dT, KDv d l H' v dT ∧ isS dT = true ∧ itemsD dT = prs.map pairP) (fun Q' kQ => ?_) (fun told H16 hR => ?_)
            · refine ⟨_, rfl, d, l, 2, rfl, by decide, by decide, g15.D, fun H16 x D16 S16 x0 x1 => ⟨rfl, _, rfl, ite2 (fun _ => ?_) (fun _ => ?_)⟩⟩
              · have P16 := P15.go S16
                exact ⟨_, rfl, kQ _ H16 ⟨D16, S16, .list (prs.map pairP), fun H' S' => .lst (S'.kp.get P16.np P16.L) (pairs_dv (P16.pr.go P16.na S')), rfl, rfl⟩⟩
              · have P16 := P15.go S16
                refine ⟨_, rfl, .inl ⟨pP, _, rfl, SqL.of P16.L, fun r hr0 => kQ _ _ ⟨D16.new hr0, S16.trans (SB.new hr0), .tuple (prs.map pairP), fun H' S' => .tup (S'.kp.get (D16.free hr0) upd_same) (pairs_dv (P16.pr.go P16.na ((SB.new hr0).trans S'))), rfl, rfl⟩⟩⟩
            · obtain ⟨D16, S16, dT, kT, sT, iT⟩ := hR
              have g16 := g15.go D16 S16
              have K16 := K15.go S16
              have P16 := P15.go S16
              have kb16 := kb15.go S16
              have HL16 := HL15.go S16
              refine ⟨_, rfl, _, rfl, pH, n, hs, rfl, HL16.L, by omega, by omega, fun t ht => (inF t (hhs t ht)).2.1, fun H17 qd S1617 hqd => ⟨_, _, rfl, ?_⟩⟩
              rw [eHs] at hqd
              have g17 := g16.same S1617
              have K17 := K16.go (sbS S1617)
              have P17 := P16.go (sbS S1617)
              have kb17 := kb16.go (sbS S1617)
              have kT17 := kT.go (sbS S1617)
              obtain ⟨due, edue⟩ : ∃ due, due = comL (holdL rs A n prs) n := ⟨_, rfl⟩
              rw [← edue] at hqd
              have ldue : due.length = n := by
                rw [edue]
                unfold comL
                rw [ker_len, colsL_len]
              have cdue : kerG due = due := by
                rw [edue]
                exact ker_ker _
              have smallN : ∀ {ns : List Int}, ns.length = n → kerG ns = ns → Told (rowP ns) := fun {ns} h1 h2 => .tup ns (fun z hz' => by have := canon_range h2 hz'; omega) (by omega)
              have Tdue := smallN ldue cdue
              have hcl : clRes (us.length : Int) dT = none := by
                unfold clRes
                rw [sT, iT, show us.length = n by omega]
                exact badP_all ip
              have lsT : (itemsD dT).length ≤ 1000 := by
                rw [iT, List.length_map]
                omega
              have lsT2 : ∀ z ∈ itemsD dT, (itemsD z).length ≤ 1000 := fun z hz' => by
                rw [iT] at hz'
                obtain ⟨p, _, rfl⟩ := List.mem_map.mp hz'
                show 2 ≤ 1000
                decide
              have isL : ∀ {R : List Int} {d : PyData}, itemsD d = prs.map pairP → LeastFace (rsOf us) ((A : Int)).toNat ((itemsD d).map pairOf) R → due = R ∧ R ∈ facesL rs A n := fun {R d} e x => by
                rw [e, pairOf_map, eA, eR, ← ers] at x
                have := due_least Rr ipr x
                rw [lrs] at this
                rw [edue]
                exact this
              refine norm (σ' := [some (.ref sa), some (.ref d), some (.int (A : Int)), some (.ref g), some (.ref m), some (.int (n : Int)), some (.ref pp), some (.ref pF), v8, some (.ref one.1), some (.ref oth.1), some (bad), some (.ref pP), none, some (.ref pH), none, none, some (told), some (.ref qd), none, none, none, none]) rfl ?_
              -- twice
              refine ⟨2, rfl, by decide, by decide, ?_⟩
              refine for_it walk_rangeV (fun i σ H' => ∃ v13 : Option V, σ = [some (.ref sa), some (.ref d), some (.int (A : Int)), some (.ref g), some (.ref m), some (.int (n : Int)), some (.ref pp), some (.ref pF), v8, some (.ref one.1), some (.ref oth.1), some (bad), some (.ref pP), v13, some (.ref pH), none, none, some (told), some (.ref qd), none, none, none, none] ∧ Same H17 H' ∧ (0 < i → due ∈ facesL rs A n)) ⟨none, rfl, Same.refl _, fun h => absurd h (Nat.not_lt_zero 0)⟩ (fun i σ H' _ _ => trivial) ?_ ?_
              · rintro i x σ H18 H18' hi ⟨v13, rfl, S18, _⟩ ⟨rfl, hx⟩
                have g18 := g17.same S18
                refine ⟨_, rfl, _, rfl, 0, m, told, .non, dT, .none, (A : Int), us, rfl, g18.M, O, (kT17.go (sbS S18)).dv, .non, lsT, (fun _ => lsT2), Nat.zero_le _, ?_, (fun e => by cases e), (fun e => by cases e), .inl rfl⟩
                intro _
                rw [hcl]
                intro H19 v R S1819 hv xL
                obtain ⟨eR1, hR1⟩ := isL iT xL
                rw [← eR1] at hv hR1
                refine ⟨v, rowP due, rfl, Tdue.dp hv, .inr (Tdue.ref' hv), Tdue.sh, ?_⟩
                refine ⟨_, rfl, .ref qd, rowP due, rfl, .tup (SqT.of (S1819 _ _ (S18 _ _ hqd))) (dpAll_ints _), .inr ⟨_, rfl⟩, Tdue.sh, rfl, _, rfl, iteS rfl ⟨_, rfl, S18.trans S1819, fun _ => hR1⟩⟩
              · rintro σ H18 ⟨v13, rfl, S1718, hin⟩
                have hin := hin (by decide)
                have gA := g17.same S1718
                have KA := K17.go (sbS S1718)
                have PA := P17.go (sbS S1718)
                have kbA := kb17.go (sbS S1718)
                have hqA := S1718 _ _ hqd
                have lu : us.length = n := by omega
                have iF : ∀ {t : Addr × List Int}, t ∈ fs → IsFace (rsOf us) ((A : Int)).toNat (rowP t.2) := fun {t} ht => by
                  rw [eA, eR, ← ers, isFace_row, lrs]
                  exact (inF t ht).1
                obtain ⟨_, o1, o2⟩ := inF one mo
                obtain ⟨_, p1, p2⟩ := inF oth mt
                have z1 : ∀ {t : Addr × List Int}, t ∈ fs → (itemsD (rowP t.2)).length ≤ 1000 := fun {t} ht => by
                  show (t.2.map PyData.int).length ≤ 1000
                  rw [List.length_map, (inF t ht).2.1]
                  omega
                have TR0 : Told (refP 0) := .ref 0 (by decide)
                have TR1 : Told (refP 1) := .ref 1 (by decide)
                -- in faces, common ones
                refine ⟨_, rfl, _, rfl, rowP due, (fs.map (·.2)).map rowP, .tup (SqT.of hqA) (dpAll_ints _), dp_listT KA.L, shaped_rowP _, lay_rowsT _, _, rfl, ?_⟩
                rw [show (((fs.map (·.2)).map rowP).any fun z => PyData.eqv z (rowP due)) = true from (any_rows _ _).mpr (by rw [eF]; exact hin)]
                refine iteF ?_
                refine ⟨_, rfl, _, rfl, _, rfl, 1, m, .ref one.1, .ref oth.1, rowP one.2, rowP oth.2, (A : Int), us, rfl, gA.M, O, .tup (KA.L.row one mo) (dvAll_ints _), .tup (KA.L.row oth mt) (dvAll_ints _), z1 mo, (fun e => by cases e), z1 mt, (fun e => by cases e), (fun _ => ⟨fun F => absurd (iF mo) F, fun _ F => absurd (iF mt) F, fun _ _ H19 v S1819 hv => ?_⟩), (fun e => by cases e), .inr (.inl rfl)⟩
                have Tco := smallN (comL_len [one.2, oth.2] n) (comL_canon _ _)
                rw [show intsD (rowP one.2) = one.2 from intsD_tuple _, show intsD (rowP oth.2) = oth.2 from intsD_tuple _, lu] at hv
                refine ⟨v, _, rfl, Tco.dp hv, .inr (Tco.ref' hv), Tco.sh, ?_⟩
                refine ⟨_, rfl, _, rfl, by show 2 ≤ sizeLine; decide, fun pl hpl => ?_⟩
                have S19l := S1819.trans (Same.new (o := HO.lst [.ref one.1, .ref oth.1]) hpl)
                have K19 := KA.go (sbS S19l)
                refine ⟨_, rfl, pl, n, [one, oth], rfl, ⟨upd_same, fun t ht => ?_⟩, by show 2 ≤ 1000; decide, by omega, fun t ht => ?_, fun H20 q20 S20 hq20 => ?_⟩
                · rcases List.mem_cons.mp ht with rfl | ht
                  · exact K19.L.row _ mo
                  · rw [List.mem_singleton.mp ht]
                    exact K19.L.row _ mt
                · rcases List.mem_cons.mp ht with rfl | ht
                  · exact o1
                  · rw [List.mem_singleton.mp ht]
                    exact p1
                refine ⟨.ref q20, _, rfl, .tup (SqT.of hq20) (dpAll_ints _), .inr ⟨_, rfl⟩, Tco.sh, rfl, _, rfl, iteS rfl ?_⟩
                have S1820 := S19l.trans S20
                -- the machine of the classes
                have gB := gA.same S1820
                have KB := KA.go (sbS S1820)
                refine ⟨_, rfl, _, rfl, 2, m, .ref one.1, .non, rowP one.2, .none, (A : Int), us, rfl, gB.M, O, .tup (KB.L.row one mo) (dvAll_ints _), .non, z1 mo, (fun e => by cases e), Nat.zero_le _, (fun e => by cases e), (fun e => by cases e), (fun _ => ⟨fun F => absurd (iF mo) F, fun _ H21 v2 S2021 hv2 => ?_⟩), .inr (.inr rfl)⟩
                have Rc := clsR_rs Rr (by rw [o1, lrs]) o2
                have lc : (clsR rs one.2).length ≤ n := by
                  unfold clsR
                  rw [List.length_map, ← o1]
                  exact leastL_len _
                have Trw : Told (.tuple ((clsR rs one.2).map rowP)) := .rows _ (fun r hr => by
                  obtain ⟨h1, h2⟩ := Rc.row r hr
                  refine ⟨by omega, fun z hz' => ?_⟩
                  have := h2 z hz'
                  omega) (by omega)
                rw [eR, ← ers, show intsD (rowP one.2) = one.2 from intsD_tuple _] at hv2
                refine ⟨v2, _, rfl, Trw.dp hv2, .inr (Trw.ref' hv2), Trw.sh, ?_⟩
                have gC := gB.same S2021
                have KC := KB.go (sbS S2021)
                refine ⟨_, rfl, _, rfl, g, one.1, A, ts, one.2, rfl, gC.G, R2.rs, by omega, by omega, SqT.of (KC.L.row one mo), by omega, o2, fun H22 q22 us2 S22 G22 e22 => ⟨q22, rfl, ⟨_, SqL.of G22.top⟩, fun D22 hD22 => ?_⟩⟩
                have w5 := walk_list (K := K) (a := q22) (xs := us2.map fun t : Addr × List Int => V.ref t.1)
                rw [List.length_map] at w5
                rw [← ers] at e22
                have l22 : us2.length ≤ n := by
                  have := congrArg List.length e22
                  rw [rsOf_len] at this
                  omega
                refine lcWT w5 (fun k => (us2[k]?).map fun t => t.2) hD22 (by omega) (fun H' S => SqL.of (S _ _ G22.top)) ?_ ?_
                · rintro k0 x H23 H23' hk S23 ⟨rfl, hx⟩ N Q' _ kQ
                  have hu1 := List.getElem?_eq_getElem hk
                  rw [List.getElem?_map, hu1] at hx
                  obtain rfl := Option.some.inj hx
                  obtain ⟨u, eu⟩ : ∃ u, u = us2[k0] := ⟨_, rfl⟩
                  rw [← eu] at hu1 ⊢
                  rw [hu1] at kQ
                  exact ⟨wipe1 _ _ _, iteT (B := N H23') ⟨_, rfl, .inl ⟨u.1, _, rfl, SqL.of (S23 _ _ (G22.row u (mem_of_get hu1))), fun r hr0 => kQ _ rfl _ r (Same.new hr0) upd_same⟩⟩⟩
                · intro H23 ts3 S2223 L23 e23
                  rw [fm_mapG] at e23
                  refine .inl ⟨D22, _, rfl, SqL.of L23.top, fun r hr0 => ?_⟩
                  have S23r := Same.new (o := HO.tup (ts3.map fun t : Addr × List Int => V.ref t.1)) hr0
                  have e3' : rsOf ts3 = clsR rs one.2 := by
                    show ts3.map (·.2) = _
                    rw [e23]
                    exact e22
                  refine ⟨.ref r, .tuple ((clsR rs one.2).map rowP), rfl, ?_, .inr ⟨_, rfl⟩, Trw.sh, rfl, _, rfl, iteS rfl ?_⟩
                  · rw [← e3']
                    exact .tup (SqT.of upd_same) (dp_rows fun t ht => S23r _ _ (L23.row t ht))
                  have S1823 := (((S1820.trans S2021).trans S22).trans S2223).trans S23r
                  have gD := gA.same S1823
                  have KD := KA.go (sbS S1823)
                  -- its commands
                  refine ⟨_, rfl, _, rfl, m, .ref one.1, rowP one.2, (A : Int), us, rfl, gD.M, O, .tup (KD.L.row one mo) (dvAll_ints _), z1 mo, (fun ns' en' F H24 m' ws S24 M' e' => ?_), (fun F => absurd (iF mo) F)⟩
                  obtain ⟨dx', t', h1', h2', h3'⟩ := M'
                  refine ⟨m', CM, dx', _, _, rfl, h1', TC.cl, TC.n1, fld_c _ _ _, _, rfl, rfl, _, rfl, iteV rfl ?_⟩
                  have S1824 := S1823.trans S24
                  have gE := gA.same S1824
                  have KE' := KA.go (sbS S1824)
                  have kbE := kbA.go (sbS S1824)
                  -- what is refused
                  refine ⟨_, rfl, _, rfl, 1, m, bad, .non, eb, .none, (A : Int), us, rfl, gE.M, O, kbE.dv, .non, zb, (fun e => by cases e), Nat.zero_le _, (fun e => by cases e), (fun _ => ⟨fun _ H25 v5 S25 hv5 => ?_, fun F => absurd F nF, fun F => absurd F nF⟩), (fun e => by cases e), .inr (.inl rfl)⟩
                  refine ⟨v5, _, rfl, TR0.dp hv5, .inr (TR0.ref' hv5), TR0.sh, ?_⟩
                  refine ⟨by show 2 ≤ sizeLine; decide, fun x25 hx25 => ⟨.ref x25, refP 0, rfl, .tup (SqT.of upd_same) (.cons (.str _) (.cons (.int _) .nil)), .inr ⟨_, rfl⟩, TR0.sh, rfl, _, rfl, iteS rfl ?_⟩⟩
                  have S2426 := S25.trans (Same.new (o := HO.tup [.str "refused", .int 0]) hx25)
                  have g26 := gE.same S2426
                  have K26 := KE'.go (sbS S2426)
                  have kb26 := kbE.go (sbS S2426)
                  refine ⟨_, rfl, _, rfl, _, rfl, 1, m, .ref one.1, bad, rowP one.2, eb, (A : Int), us, rfl, g26.M, O, .tup (K26.L.row one mo) (dvAll_ints _), kb26.dv, z1 mo, (fun e => by cases e), zb, (fun e => by cases e), (fun _ => ⟨fun F => absurd (iF mo) F, fun _ _ H27 v7 S27 hv7 => ?_, fun _ F => absurd F nF⟩), (fun e => by cases e), .inr (.inl rfl)⟩
                  refine ⟨v7, _, rfl, TR1.dp hv7, .inr (TR1.ref' hv7), TR1.sh, ?_⟩
                  refine ⟨by show 2 ≤ sizeLine; decide, fun x27 hx27 => ⟨.ref x27, refP 1, rfl, .tup (SqT.of upd_same) (.cons (.str _) (.cons (.int _) .nil)), .inr ⟨_, rfl⟩, TR1.sh, rfl, _, rfl, iteS rfl ?_⟩⟩
                  have S2628 := S27.trans (Same.new (o := HO.tup [.str "refused", .int 1]) hx27)
                  have g28 := g26.same S2628
                  have kb28 := kb26.go (sbS S2628)
                  refine ⟨_, rfl, _, rfl, 2, m, bad, .non, eb, .none, (A : Int), us, rfl, g28.M, O, kb28.dv, .non, zb, (fun e => by cases e), Nat.zero_le _, (fun e => by cases e), (fun e => by cases e), (fun _ => ⟨fun _ H29 v9 S29 hv9 => ?_, fun F => absurd F nF⟩), .inr (.inr rfl)⟩
                  refine ⟨v9, _, rfl, TR0.dp hv9, .inr (TR0.ref' hv9), TR0.sh, ?_⟩
                  refine ⟨by show 2 ≤ sizeLine; decide, fun x29 hx29 => ⟨.ref x29, refP 0, rfl, .tup (SqT.of upd_same) (.cons (.str _) (.cons (.int _) .nil)), .inr ⟨_, rfl⟩, TR0.sh, rfl, _, rfl, iteS rfl ?_⟩⟩
                  have S2830 := S29.trans (Same.new (o := HO.tup [.str "refused", .int 0]) hx29)
                  have S1830 := ((S1824.trans S2426).trans S2628).trans S2830
                  have g30 := gA.same S1830
                  have P30 := PA.go (sbS S1830)
                  have hq30 := S1830 _ _ hqA
                  -- wrong pairs
                  refine ⟨_, rfl, _, rfl, pP, _, rfl, .inl (SqL.of P30.L), _, _, rfl, rfl, d, l, _, rfl, by rw [List.length_map]; omega, by rw [List.length_map]; omega, g30.D, fun H31 at_ D31 S31 a00 a01 => ?_⟩
                  rw [List.length_map] at a01
                  obtain ⟨j, rfl⟩ : ∃ j : Nat, at_ = (j : Int) := ⟨at_.toNat, by omega⟩
                  have hj : j ≤ as.length := by omega
                  have g31 := g30.go D31 S31
                  have P31 := P30.go S31
                  have hq31 := S31.kp.get (g30.D.off hq30) hq30
                  refine ⟨_, rfl, by show 1 ≤ sizeLine; decide, fun t1 ht1 => ⟨by show 3 ≤ sizeLine; decide, fun t2' ht2' => ⟨by show 2 ≤ sizeLine; decide, fun t3 ht3 => ⟨_, rfl, by show 2 ≤ sizeLine; decide, fun t4 ht4 => ⟨_, rfl, by show 2 ≤ sizeLine; decide, fun t5 ht5 => ⟨by show 2 ≤ sizeLine; decide, fun t7 ht7 => ⟨by show 2 ≤ sizeLine; decide, fun t8 ht8 => ⟨by show 2 ≤ sizeLine; decide, fun t9 ht9 => ⟨by show 10 ≤ sizeLine; decide, fun tw htw => ?_⟩⟩⟩⟩⟩⟩⟩⟩⟩
                  have b1 := g31.D.new (o := HO.tup [.int 0]) ht1
                  have q1 : BadP d l n _ (.ref t1) := bad_flat (ds := [.int 0]) b1 upd_same (fun _ => .cons (.int _) .nil) (pd_len (by decide)) (by decide)
                  have b2 := b1.new (o := HO.tup [.int 0, .int 0, .int 0]) ht2'
                  have q2 : BadP d l n _ (.ref t2') := bad_flat (ds := [.int 0, .int 0, .int 0]) b2 upd_same (fun _ => .cons (.int _) (.cons (.int _) (.cons (.int _) .nil))) (pd_len (by decide)) (by decide)
                  have b3 := b2.new (o := HO.lst [.int 0, .int 0]) ht3
                  have q3 := bad_l (n := n) b2 ht3
                  have b4 := b3.new (o := HO.tup [.int 0, .int (n : Int)]) ht4
                  have q4 : BadP d l n _ (.ref t4) := bad_flat (ds := [.int 0, .int (n : Int)]) b4 upd_same (fun _ => .cons (.int _) (.cons (.int _) .nil)) (pd_bad (e := .int (n : Int)) (by simp) isB_self) (by show 2 ≤ 1000; decide)
                  have b5 := b4.new (o := HO.tup [.int (-1), .int 0]) ht5
                  have q5' : BadP d l n _ (.ref t5) := bad_flat (ds := [.int (-1), .int 0]) b5 upd_same (fun _ => .cons (.int _) (.cons (.int _) .nil)) (pd_bad (e := .int (-1)) (by simp) rfl) (by decide)
                  have b7 := b5.new (o := HO.tup [.int 0, .bl false]) ht7
                  have q7 : BadP d l n _ (.ref t7) := bad_flat (ds := [.int 0, .bool false]) b7 upd_same (fun _ => .cons (.int _) (.cons (.bl _) .nil)) (pd_bad (e := .bool false) (by simp) rfl) (by decide)
                  have b8 := b7.new (o := HO.tup [.bl true, .int 0]) ht8
                  have q8 : BadP d l n _ (.ref t8) := bad_flat (ds := [.bool true, .int 0]) b8 upd_same (fun _ => .cons (.bl _) (.cons (.int _) .nil)) (pd_bad (e := .bool true) (by simp) rfl) (by decide)
                  have b9 := b8.new (o := HO.tup [.str "0", .int 0]) ht9
                  have q9 : BadP d l n _ (.ref t9) := bad_flat (ds := [.str "0", .int 0]) b9 upd_same (fun _ => .cons (.str _) (.cons (.int _) .nil)) (pd_bad (e := .str "0") (by simp) rfl) (by decide)
                  have bw := b9.new (o := HO.lst [.ref t1, .ref t2', .ref t3, .ref t4, .ref t5, .non, .ref t7, .ref t8, .ref t9, .int 0]) htw
                  refine ⟨d, l, tw, _, rfl, upd_same, b9.free htw, by show 0 < 10; decide, by show 10 ≤ 1000; decide, bw, fun H32 i32 wr D32 S32 h32 => ?_⟩
                  have Tw := Same.new (o := HO.lst [.ref t1, .ref t2', .ref t3, .ref t4, .ref t5, .non, .ref t7, .ref t8, .ref t9, .int 0]) htw
                  have T9 := (Same.new (o := HO.tup [.str "0", .int 0]) ht9).trans Tw
                  have T8 := (Same.new (o := HO.tup [.bl true, .int 0]) ht8).trans T9
                  have T7 := (Same.new (o := HO.tup [.int 0, .bl false]) ht7).trans T8
                  have T5 := (Same.new (o := HO.tup [.int (-1), .int 0]) ht5).trans T7
                  have T4 := (Same.new (o := HO.tup [.int 0, .int (n : Int)]) ht4).trans T5
                  have T3 := (Same.new (o := HO.lst [.int 0, .int 0]) ht3).trans T4
                  have T2 := (Same.new (o := HO.tup [.int 0, .int 0, .int 0]) ht2').trans T3
                  have T1 := (Same.new (o := HO.tup [.int 0]) ht1).trans T2
                  have bwr : BadP d l n H32 wr := by
                    have hm := mem_of_get h32
                    simp only [List.mem_cons, List.not_mem_nil, or_false] at hm
                    have go : ∀ {H : Hp} {v : V}, BadP d l n H v → SB d l H H32 → BadP d l n H32 v := fun ⟨e, h1, h2⟩ S => ⟨e, h1.go S, h2⟩
                    rcases hm with rfl | rfl | rfl | rfl | rfl | rfl | rfl | rfl | rfl | rfl
                    · exact go (q1.same T2) S32
                    · exact go (q2.same T3) S32
                    · exact go (q3.same T4) S32
                    · exact go (q4.same T5) S32
                    · exact go (q5'.same T7) S32
                    · exact ⟨.none, fun _ _ => .non, pd_kind rfl, Nat.zero_le _⟩
                    · exact go (q7.same T8) S32
                    · exact go (q8.same T9) S32
                    · exact go (q9.same Tw) S32
                    · exact ⟨.int 0, fun _ _ => .int 0, pd_kind rfl, Nat.zero_le _⟩
                  obtain ⟨ew, kw, nw, zw⟩ := bwr
                  have S3132 : SB d l H31 H32 := (sbS T1).trans S32
                  have g32 := g31.go D32 S3132
                  have P32 := P31.go S3132
                  have hq32 := S3132.kp.get (g31.D.off hq31) hq31
                  have lT : ((as.map V.ref).take j).length ≤ 3 := by
                    rw [List.length_take, List.length_map]
                    omega
                  have lD : ((as.map V.ref).drop j).length ≤ 3 := by
                    rw [List.length_drop, List.length_map]
                    omega
                  have cT : cutV (as.map V.ref) none (some (j : Int)) = (as.map V.ref).take j := cut_to (by rw [List.length_map]; exact hj)
                  have cD : cutV (as.map V.ref) (some (j : Int)) none = (as.map V.ref).drop j := cut_from (by rw [List.length_map]; exact hj)
                  -- pairs with a wrong one amid
                  refine ⟨_, rfl, _, rfl, _, rfl, (j : Int), rfl, pP, _, rfl, SqL.of P32.L, fun u1 hu1 => ?_⟩
                  rw [cT]
                  refine ⟨u1, _, rfl, .inl (SqL.of upd_same), fun u2 hu2 => ⟨_, rfl, by show 1 ≤ sizeLine; decide, fun u3 hu3 => ?_⟩⟩
                  have V12 := (Same.new (o := HO.lst ((as.map V.ref).take j)) hu1).trans (Same.new (o := HO.lst ((as.map V.ref).take j)) hu2)
                  refine ⟨u2, u3, _, _, rfl, rfl, (Same.new hu3) _ _ upd_same, upd_same, by show _ + 1 ≤ sizeLine; exact Nat.le_trans (by omega : _ ≤ 10) (by decide), fun u4 hu4 => ?_⟩
                  have V14 := (V12.trans (Same.new (o := HO.lst [wr]) hu3)).trans (Same.new (o := HO.lst ((as.map V.ref).take j ++ [wr])) hu4)
                  have P34 := P32.go (sbS V14)
                  refine ⟨_, rfl, _, rfl, (j : Int), rfl, noPart ⟨pP, _, rfl, SqL.of P34.L, fun u5 hu5 => ?_⟩⟩
                  rw [cD]
                  refine ⟨u5, _, rfl, .inl (SqL.of upd_same), fun u6 hu6 => ?_⟩
                  have V46 := (Same.new (o := HO.lst ((as.map V.ref).drop j)) hu5).trans (Same.new (o := HO.lst ((as.map V.ref).drop j)) hu6)
                  refine ⟨u4, u6, _, _, rfl, rfl, V46 _ _ upd_same, upd_same, by rw [List.length_append]; show _ + 1 + _ ≤ sizeLine; exact Nat.le_trans (by omega : _ ≤ 10) (by decide), fun u7 hu7 => ⟨by show 1 ≤ sizeLine; decide, fun u8 hu8 => ?_⟩⟩
                  have V78 := (Same.new (o := HO.lst ((as.map V.ref).take j ++ [wr] ++ (as.map V.ref).drop j)) hu7).trans (Same.new (o := HO.lst [V.non]) hu8)
                  refine ⟨u7, u8, _, _, rfl, rfl, (Same.new hu8) _ _ upd_same, upd_same, by rw [List.length_append, List.length_append]; show _ + 1 + _ + 1 ≤ sizeLine; exact Nat.le_trans (by omega : _ ≤ 10) (by decide), fun u9 hu9 => ?_⟩
                  have V32 := (((V14.trans V46).trans V78).trans (Same.new (o := HO.lst ((as.map V.ref).take j ++ [wr] ++ (as.map V.ref).drop j ++ [V.non])) hu9))
                  have g39 := g32.same V32
                  have P39 := P32.go (sbS V32)
                  have dP := pairs_dv P39.pr
                  have kw39 := kw.go (sbS V32)
                  obtain ⟨dL, edL⟩ : ∃ dL, dL = (prs.map pairP).take j ++ [ew] ++ (prs.map pairP).drop j ++ [PyData.none] := ⟨_, rfl⟩
                  have takeDv : ∀ {H : Hp} {xs : List V} {ds : List PyData} (k : Nat), DvAll H xs ds → DvAll H (xs.take k) (ds.take k) ∧ DvAll H (xs.drop k) (ds.drop k) := fun {H xs ds} k h => by
                    induction k generalizing xs ds with
                    | zero => exact ⟨by rw [List.take_zero, List.take_zero]; exact .nil, by rw [List.drop_zero, List.drop_zero]; exact h⟩
                    | succ k ih =>
                      cases h with
                      | nil => exact ⟨.nil, .nil⟩
                      | cons h t => exact ⟨.cons h (ih t).1, (ih t).2⟩
                  obtain ⟨dv1, dv2⟩ := takeDv j dP
                  have edL2 : dL = (prs.take j).map pairP ++ ew :: ((prs.drop j).map pairP ++ [PyData.none]) := by
                    rw [edL, List.map_take, List.map_drop]
                    simp
                  have ltj : (prs.take j).length = j := by
                    rw [List.length_take]
                    have := pr14.1
                    omega
                  have clB : clRes (us.length : Int) (.list dL) = some j := by
                    show badP (us.length : Int) dL 0 = some j
                    rw [edL2, lu, badP_at nw fun q hq => ip q (List.mem_of_mem_take hq), ltj, Nat.zero_add]
                  have zL : (itemsD (.list dL)).length ≤ 1000 := by
                    show dL.length ≤ 1000
                    rw [edL2]
                    simp
                    omega
                  refine ⟨0, m, .ref u9, .non, .list dL, .none, (A : Int), us, rfl, g39.M, O, .lst upd_same (by rw [edL]; exact dvAll_append (dvAll_append (dvAll_append dv1 (.cons kw39.dv .nil)) dv2) (.cons .non .nil)), .non, zL, (fun _ z hz' => ?_), Nat.zero_le _, ?_, (fun e => by cases e), (fun e => by cases e), .inl rfl⟩
                  · have hz' : z ∈ dL := hz'
                    rw [edL2] at hz'
                    rcases List.mem_append.mp hz' with q | q
                    · obtain ⟨p, _, rfl⟩ := List.mem_map.mp q
                      show 2 ≤ 1000
                      decide
                    · rcases List.mem_cons.mp q with rfl | q
                      · exact zw
                      · rcases List.mem_append.mp q with q | q
                        · obtain ⟨p, _, rfl⟩ := List.mem_map.mp q
                          show 2 ≤ 1000
                          decide
                        · rw [List.mem_singleton.mp q]
                          exact Nat.zero_le _
                  intro _
                  rw [clB]
                  intro H40 v40 S3940 hv40
                  have Tq : ∀ k : Nat, k ≤ 3 → Told (quP (k : Int)) := fun k hk => .qu _ (by omega)
                  refine ⟨v40, _, rfl, (Tq j (by omega)).dp hv40, .inr ((Tq j (by omega)).ref' hv40), (Tq j (by omega)).sh, ?_⟩
                  refine ⟨_, rfl, by show 2 ≤ sizeLine; decide, fun x41 hx41 => ⟨.ref x41, quP (j : Int), rfl, .tup (SqT.of upd_same) (.cons (.str _) (.cons (.int _) .nil)), .inr ⟨_, rfl⟩, (Tq j (by omega)).sh, rfl, _, rfl, iteS rfl ?_⟩⟩
                  have S3242 := (V32.trans S3940).trans (Same.new (o := HO.tup [.str "question", .int (j : Int)]) hx41)
                  have g42 := g32.same S3242
                  have P42 := P32.go (sbS S3242)
                  have hq42 := S3242 _ _ hq32
                  -- once more
                  have clG : clRes (us.length : Int) (.list (prs.map pairP)) = none := by
                    show badP (us.length : Int) (prs.map pairP) 0 = none
                    rw [lu]
                    exact badP_all ip
                  refine ⟨_, rfl, _, rfl, 0, m, .ref pP, .non, .list (prs.map pairP), .none, (A : Int), us, rfl, g42.M, O, .lst P42.L (pairs_dv P42.pr), .non, by show (prs.map pairP).length ≤ 1000; rw [List.length_map]; omega, (fun _ z hz' => ?_), Nat.zero_le _, ?_, (fun e => by cases e), (fun e => by cases e), .inl rfl⟩
                  · obtain ⟨p, _, rfl⟩ := List.mem_map.mp (show z ∈ prs.map pairP from hz')
                    show 2 ≤ 1000
                    decide
                  intro _
                  rw [clG]
                  intro H43 later R S4243 hv43 xL
                  obtain ⟨eR1, hR1⟩ := isL rfl xL
                  rw [← eR1] at hv43
                  obtain ⟨la, rfl⟩ := Tdue.ref' hv43
                  have hla : H43 la = some (.tup (due.map V.int)) := by
                    cases hv43 with
                    | @tup _ xs ds ha hx =>
                      have ex : xs = due.map V.int := by
                        have := hx.ints (n := (due.length : Int)) (isB_ints fun z hz' => canon_range cdue hz')
                        rw [this, intD_ints]
                      rw [← ex]
                      exact ha
                  have P43 := P42.go (sbS S4243)
                  have hq43 := S4243 _ _ hq42
                  have g43 := g42.same S4243
                  refine ⟨_, rfl, .inl ⟨rfl, _, SqL.of P43.L⟩, _, rfl, _, _, rfl, rfl, by show 2 ≤ sizeLine; decide, fun x44 hx44 => ?_⟩
                  have N44 := Same.new (o := HO.tup [.int 0, .int ((n : Int) - 1)]) hx44
                  refine ⟨pP, _, _, rfl, rfl, N44 _ _ P43.L, by rw [List.length_map]; exact Nat.lt_of_le_of_lt (by omega : _ ≤ 10) (by decide), ?_⟩
                  have nla : la ≠ pP := fun e => by rw [e, P43.L] at hla; cases hla
                  have nqd : qd ≠ pP := fun e => by rw [e, P43.L] at hq43; cases hq43
                  have hla5 := (upd_ne (o := HO.lst (as.map V.ref ++ [V.ref x44])) nla).trans (N44 _ _ hla)
                  have hq5 := (upd_ne (o := HO.lst (as.map V.ref ++ [V.ref x44])) nqd).trans (N44 _ _ hq43)
                  have g44 := g43.same N44
                  have npg : g ≠ pP := ne_of_none g13.G.top hpP
                  have npt : ∀ t ∈ ts, t.1 ≠ pP := fun t ht => ne_of_none (g13.G.row t ht) hpP
                  have g45 := g44.upd (o := HO.lst (as.map V.ref ++ [V.ref x44])) (N44 _ _ P43.L) P43.np npg npt
                  refine ⟨_, rfl, _, rfl, rowP due, rowP due, .tup (SqT.of hla5) (dpAll_ints _), .tup (SqT.of hq5) (dpAll_ints _), shaped_rowP _, shaped_rowP _, _, rfl, ?_⟩
                  rw [eqv_row2, decide_eq_true (rfl : due = due)]
                  refine iteT ?_
                  refine ⟨_, rfl, _, rfl, fun x46 hx46 => ⟨by show 4 ≤ sizeLine; decide, fun x47 hx47 => ?_⟩⟩
                  have b46 := g45.D.new (o := HO.dK []) hx46
                  have b47 := b46.new (o := HO.lst [.non, .int 0, .str "00", .ref x46]) hx47
                  refine ⟨d, l, x47, _, rfl, upd_same, b46.free hx47, by show 0 < 4; decide, by show 4 ≤ 1000; decide, b47, fun H48 i48 v48 D48 S48 h48 => ?_⟩
                  have Sz : SB d l _ H48 := ((SB.new (d := d) (l := l) (o := HO.dK []) hx46).trans (SB.new (o := HO.lst [.non, .int 0, .str "00", .ref x46]) hx47)).trans S48
                  have g48 := g45.go D48 Sz
                  obtain ⟨e48, dv48, s48⟩ : ∃ e, Dv H48 v48 e ∧ isS e = false := by
                    have hm := mem_of_get h48
                    simp only [List.mem_cons, List.not_mem_nil, or_false] at hm
                    rcases hm with rfl | rfl | rfl | rfl
                    · exact ⟨_, .non, rfl⟩
                    · exact ⟨_, .int 0, rfl⟩
                    · exact ⟨_, .str _, rfl⟩
                    · exact ⟨_, .dct (S48.kp.get (g45.D.free hx46) ((Same.new hx47) _ _ upd_same)), rfl⟩
                  have i48 : itemsD e48 = [] := by
                    cases e48 with
                    | none => rfl
                    | int _ => rfl
                    | bool _ => rfl
                    | str _ => rfl
                    | list _ => cases s48
                    | tuple _ => cases s48
                    | dict _ => rfl
                  have cl48 : clRes (us.length : Int) e48 = some 0 := by
                    unfold clRes
                    rw [if_pos s48]
                  refine ⟨0, m, v48, .non, e48, .none, (A : Int), us, rfl, g48.M, O, dv48, .non, by rw [i48]; exact Nat.zero_le _, (fun _ z hz' => by rw [i48] at hz'; cases hz'), Nat.zero_le _, ?_, (fun e => by cases e), (fun e => by cases e), .inl rfl⟩
                  intro _
                  rw [cl48]
                  intro H49 v49 S4849 hv49
                  refine ⟨v49, _, rfl, (Tq 0 (by decide)).dp hv49, .inr ((Tq 0 (by decide)).ref' hv49), (Tq 0 (by decide)).sh, ?_⟩
                  refine ⟨by show 2 ≤ sizeLine; decide, fun x50 hx50 => ⟨.ref x50, quP 0, rfl, .tup (SqT.of upd_same) (.cons (.str _) (.cons (.int _) .nil)), .inr ⟨_, rfl⟩, (Tq 0 (by decide)).sh, rfl, ?_⟩⟩
                  have := k (upd H49 x50 (HO.tup [.str "question", .int 0]))
                  rw [show V.bl true = V.bl (decide (V.str (quP 0).shown = V.str (quP 0).shown)) by rw [decide_eq_true rfl]] at this
                  exact this
end
end Lk

set_option Elab.async false
set_option linter.all false
set_option maxRecDepth 100000
set_option maxHeartbeats 4000000
namespace Lk
open PySem L2
theorem mk_is_integer {K : PySem.W.Frag} {h : Heap} {mg : Str → Option Value} {f : Addr} {od an : Option Addr} {sl : Array (Option Value)} {oc kV dc pm cd ct : Value} (X : K.In h) (G : h.Ns mainGlobals mg) (a : PySem.W.nsIn K mainGlobals "is_integer" = some (some (.ref f))) (l : K.lookup f = some ⟨oc, od, .func (PySem.W.fnOf "is_integer" "is_integer" (defArgs s_is_integer) (defBody s_is_integer) (defScope s_is_integer) .none kV dc pm an cd ct), sl⟩) (c : PySem.W.codeIn K cd "is_integer" = true) (k : PySem.W.keepIn K (.ref f) = true) :
    Df K mg "is_integer" s_is_integer f (PySem.W.fnOf "is_integer" "is_integer" (defArgs s_is_integer) (defBody s_is_integer) (defScope s_is_integer) .none kV dc pm an cd ct) P_is_integer := ⟨fun_mk (st := s_is_integer) l c k, PySem.W.mg_of X G a, (fun_mk (st := s_is_integer) l c k).binds fun _ _ _ _ _ _ us hl => match us, hl with | [_], _ => rfl⟩
theorem mk_is_number {K : PySem.W.Frag} {h : Heap} {mg : Str → Option Value} {f : Addr} {od an : Option Addr} {sl : Array (Option Value)} {oc kV dc pm cd ct : Value} (X : K.In h) (G : h.Ns mainGlobals mg) (a : PySem.W.nsIn K mainGlobals "is_number" = some (some (.ref f))) (l : K.lookup f = some ⟨oc, od, .func (PySem.W.fnOf "is_number" "is_number" (defArgs s_is_number) (defBody s_is_number) (defScope s_is_number) .none kV dc pm an cd ct), sl⟩) (c : PySem.W.codeIn K cd "is_number" = true) (k : PySem.W.keepIn K (.ref f) = true) :
    Df K mg "is_number" s_is_number f (PySem.W.fnOf "is_number" "is_number" (defArgs s_is_number) (defBody s_is_number) (defScope s_is_number) .none kV dc pm an cd ct) P_is_number := ⟨fun_mk (st := s_is_number) l c k, PySem.W.mg_of X G a, (fun_mk (st := s_is_number) l c k).binds fun _ _ _ _ _ _ us hl => match us, hl with | [_], _ => rfl⟩
theorem mk_is_below {K : PySem.W.Frag} {h : Heap} {mg : Str → Option Value} {f : Addr} {od an : Option Addr} {sl : Array (Option Value)} {oc kV dc pm cd ct : Value} (X : K.In h) (G : h.Ns mainGlobals mg) (a : PySem.W.nsIn K mainGlobals "is_below" = some (some (.ref f))) (l : K.lookup f = some ⟨oc, od, .func (PySem.W.fnOf "is_below" "is_below" (defArgs s_is_below) (defBody s_is_below) (defScope s_is_below) .none kV dc pm an cd ct), sl⟩) (c : PySem.W.codeIn K cd "is_below" = true) (k : PySem.W.keepIn K (.ref f) = true) :
    Df K mg "is_below" s_is_below f (PySem.W.fnOf "is_below" "is_below" (defArgs s_is_below) (defBody s_is_below) (defScope s_is_below) .none kV dc pm an cd ct) P_is_below := ⟨fun_mk (st := s_is_below) l c k, PySem.W.mg_of X G a, (fun_mk (st := s_is_below) l c k).binds fun _ _ _ _ _ _ us hl => match us, hl with | [_, _], _ => rfl⟩
theorem mk_is_sequence {K : PySem.W.Frag} {h : Heap} {mg : Str → Option Value} {f : Addr} {od an : Option Addr} {sl : Array (Option Value)} {oc kV dc pm cd ct : Value} (X : K.In h) (G : h.Ns mainGlobals mg) (a : PySem.W.nsIn K mainGlobals "is_sequence" = some (some (.ref f))) (l : K.lookup f = some ⟨oc, od, .func (PySem.W.fnOf "is_sequence" "is_sequence" (defArgs s_is_sequence) (defBody s_is_sequence) (defScope s_is_sequence) .none kV dc pm an cd ct), sl⟩) (c : PySem.W.codeIn K cd "is_sequence" = true) (k : PySem.W.keepIn K (.ref f) = true) :
    Df K mg "is_sequence" s_is_sequence f (PySem.W.fnOf "is_sequence" "is_sequence" (defArgs s_is_sequence) (defBody s_is_sequence) (defScope s_is_sequence) .none kV dc pm an cd ct) P_is_sequence := ⟨fun_mk (st := s_is_sequence) l c k, PySem.W.mg_of X G a, (fun_mk (st := s_is_sequence) l c k).binds fun _ _ _ _ _ _ us hl => match us, hl with | [_], _ => rfl⟩
theorem mk_are_below {K : PySem.W.Frag} {h : Heap} {mg : Str → Option Value} {f : Addr} {od an : Option Addr} {sl : Array (Option Value)} {oc kV dc pm cd ct : Value} (X : K.In h) (G : h.Ns mainGlobals mg) (a : PySem.W.nsIn K mainGlobals "are_below" = some (some (.ref f))) (l : K.lookup f = some ⟨oc, od, .func (PySem.W.fnOf "are_below" "are_below" (defArgs s_are_below) (defBody s_are_below) (defScope s_are_below) .none kV dc pm an cd ct), sl⟩) (c : PySem.W.codeIn K cd "are_below" = true) (k : PySem.W.keepIn K (.ref f) = true) :
    Df K mg "are_below" s_are_below f (PySem.W.fnOf "are_below" "are_below" (defArgs s_are_below) (defBody s_are_below) (defScope s_are_below) .none kV dc pm an cd ct) P_are_below := ⟨fun_mk (st := s_are_below) l c k, PySem.W.mg_of X G a, (fun_mk (st := s_are_below) l c k).binds fun _ _ _ _ _ _ us hl => match us, hl with | [_, _], _ => rfl⟩
theorem mk_is_tuple_below {K : PySem.W.Frag} {h : Heap} {mg : Str → Option Value} {f : Addr} {od an : Option Addr} {sl : Array (Option Value)} {oc kV dc pm cd ct : Value} (X : K.In h) (G : h.Ns mainGlobals mg) (a : PySem.W.nsIn K mainGlobals "is_tuple_below" = some (some (.ref f))) (l : K.lookup f = some ⟨oc, od, .func (PySem.W.fnOf "is_tuple_below" "is_tuple_below" (defArgs s_is_tuple_below) (defBody s_is_tuple_below) (defScope s_is_tuple_below) .none kV dc pm an cd ct), sl⟩) (c : PySem.W.codeIn K cd "is_tuple_below" = true) (k : PySem.W.keepIn K (.ref f) = true) :
    Df K mg "is_tuple_below" s_is_tuple_below f (PySem.W.fnOf "is_tuple_below" "is_tuple_below" (defArgs s_is_tuple_below) (defBody s_is_tuple_below) (defScope s_is_tuple_below) .none kV dc pm an cd ct) P_is_tuple_below := ⟨fun_mk (st := s_is_tuple_below) l c k, PySem.W.mg_of X G a, (fun_mk (st := s_is_tuple_below) l c k).binds fun _ _ _ _ _ _ us hl => match us, hl with | [_, _], _ => rfl⟩
theorem mk_is_entry {K : PySem.W.Frag} {h : Heap} {mg : Str → Option Value} {f : Addr} {od an : Option Addr} {sl : Array (Option Value)} {oc kV dc pm cd ct : Value} (X : K.In h) (G : h.Ns mainGlobals mg) (a : PySem.W.nsIn K mainGlobals "_is_entry" = some (some (.ref f))) (l : K.lookup f = some ⟨oc, od, .func (PySem.W.fnOf "_is_entry" "_is_entry" (defArgs s_is_entry) (defBody s_is_entry) (defScope s_is_entry) .none kV dc pm an cd ct), sl⟩) (c : PySem.W.codeIn K cd "_is_entry" = true) (k : PySem.W.keepIn K (.ref f) = true) :
    Df K mg "_is_entry" s_is_entry f (PySem.W.fnOf "_is_entry" "_is_entry" (defArgs s_is_entry) (defBody s_is_entry) (defScope s_is_entry) .none kV dc pm an cd ct) P_is_entry := ⟨fun_mk (st := s_is_entry) l c k, PySem.W.mg_of X G a, (fun_mk (st := s_is_entry) l c k).binds fun _ _ _ _ _ _ us hl => match us, hl with | [_, _, _], _ => rfl⟩
theorem mk_is_state {K : PySem.W.Frag} {h : Heap} {mg : Str → Option Value} {f : Addr} {od an : Option Addr} {sl : Array (Option Value)} {oc kV dc pm cd ct : Value} (X : K.In h) (G : h.Ns mainGlobals mg) (a : PySem.W.nsIn K mainGlobals "is_state" = some (some (.ref f))) (l : K.lookup f = some ⟨oc, od, .func (PySem.W.fnOf "is_state" "is_state" (defArgs s_is_state) (defBody s_is_state) (defScope s_is_state) .none kV dc pm an cd ct), sl⟩) (c : PySem.W.codeIn K cd "is_state" = true) (k : PySem.W.keepIn K (.ref f) = true) :
    Df K mg "is_state" s_is_state f (PySem.W.fnOf "is_state" "is_state" (defArgs s_is_state) (defBody s_is_state) (defScope s_is_state) .none kV dc pm an cd ct) P_is_state := ⟨fun_mk (st := s_is_state) l c k, PySem.W.mg_of X G a, (fun_mk (st := s_is_state) l c k).binds fun _ _ _ _ _ _ us hl => match us, hl with | [_, _], _ => rfl⟩
theorem mk_is_state_tuple {K : PySem.W.Frag} {h : Heap} {mg : Str → Option Value} {f : Addr} {od an : Option Addr} {sl : Array (Option Value)} {oc kV dc pm cd ct : Value} (X : K.In h) (G : h.Ns mainGlobals mg) (a : PySem.W.nsIn K mainGlobals "is_state_tuple" = some (some (.ref f))) (l : K.lookup f = some ⟨oc, od, .func (PySem.W.fnOf "is_state_tuple" "is_state_tuple" (defArgs s_is_state_tuple) (defBody s_is_state_tuple) (defScope s_is_state_tuple) .none kV dc pm an cd ct), sl⟩) (c : PySem.W.codeIn K cd "is_state_tuple" = true) (k : PySem.W.keepIn K (.ref f) = true) :
    Df K mg "is_state_tuple" s_is_state_tuple f (PySem.W.fnOf "is_state_tuple" "is_state_tuple" (defArgs s_is_state_tuple) (defBody s_is_state_tuple) (defScope s_is_state_tuple) .none kV dc pm an cd ct) P_is_state_tuple := ⟨fun_mk (st := s_is_state_tuple) l c k, PySem.W.mg_of X G a, (fun_mk (st := s_is_state_tuple) l c k).binds fun _ _ _ _ _ _ us hl => match us, hl with | [_, _], _ => rfl⟩
theorem mk_resting {K : PySem.W.Frag} {h : Heap} {mg : Str → Option Value} {f : Addr} {od an : Option Addr} {sl : Array (Option Value)} {oc kV dc pm cd ct : Value} (X : K.In h) (G : h.Ns mainGlobals mg) (a : PySem.W.nsIn K mainGlobals "resting" = some (some (.ref f))) (l : K.lookup f = some ⟨oc, od, .func (PySem.W.fnOf "resting" "resting" (defArgs s_resting) (defBody s_resting) (defScope s_resting) .none kV dc pm an cd ct), sl⟩) (c : PySem.W.codeIn K cd "resting" = true) (k : PySem.W.keepIn K (.ref f) = true) :
    Df K mg "resting" s_resting f (PySem.W.fnOf "resting" "resting" (defArgs s_resting) (defBody s_resting) (defScope s_resting) .none kV dc pm an cd ct) P_resting := ⟨fun_mk (st := s_resting) l c k, PySem.W.mg_of X G a, (fun_mk (st := s_resting) l c k).binds fun _ _ _ _ _ _ us hl => match us, hl with | [_], _ => rfl⟩
theorem mk_least_states {K : PySem.W.Frag} {h : Heap} {mg : Str → Option Value} {f : Addr} {od an : Option Addr} {sl : Array (Option Value)} {oc kV dc pm cd ct : Value} (X : K.In h) (G : h.Ns mainGlobals mg) (a : PySem.W.nsIn K mainGlobals "least_states" = some (some (.ref f))) (l : K.lookup f = some ⟨oc, od, .func (PySem.W.fnOf "least_states" "least_states" (defArgs s_least_states) (defBody s_least_states) (defScope s_least_states) .none kV dc pm an cd ct), sl⟩) (c : PySem.W.codeIn K cd "least_states" = true) (k : PySem.W.keepIn K (.ref f) = true) :
    Df K mg "least_states" s_least_states f (PySem.W.fnOf "least_states" "least_states" (defArgs s_least_states) (defBody s_least_states) (defScope s_least_states) .none kV dc pm an cd ct) P_least_states := ⟨fun_mk (st := s_least_states) l c k, PySem.W.mg_of X G a, (fun_mk (st := s_least_states) l c k).binds fun _ _ _ _ _ _ us hl => match us, hl with | [_], _ => rfl⟩
theorem mk_machine_of_classes {K : PySem.W.Frag} {h : Heap} {mg : Str → Option Value} {f : Addr} {od an : Option Addr} {sl : Array (Option Value)} {oc kV dc pm cd ct : Value} (X : K.In h) (G : h.Ns mainGlobals mg) (a : PySem.W.nsIn K mainGlobals "machine_of_classes" = some (some (.ref f))) (l : K.lookup f = some ⟨oc, od, .func (PySem.W.fnOf "machine_of_classes" "machine_of_classes" (defArgs s_machine_of_classes) (defBody s_machine_of_classes) (defScope s_machine_of_classes) .none kV dc pm an cd ct), sl⟩) (c : PySem.W.codeIn K cd "machine_of_classes" = true) (k : PySem.W.keepIn K (.ref f) = true) :
    Df K mg "machine_of_classes" s_machine_of_classes f (PySem.W.fnOf "machine_of_classes" "machine_of_classes" (defArgs s_machine_of_classes) (defBody s_machine_of_classes) (defScope s_machine_of_classes) .none kV dc pm an cd ct) P_machine_of_classes := ⟨fun_mk (st := s_machine_of_classes) l c k, PySem.W.mg_of X G a, (fun_mk (st := s_machine_of_classes) l c k).binds fun _ _ _ _ _ _ us hl => match us, hl with | [_, _], _ => rfl⟩
theorem mk_kernel_of {K : PySem.W.Frag} {h : Heap} {mg : Str → Option Value} {f : Addr} {od an : Option Addr} {sl : Array (Option Value)} {oc kV dc pm cd ct : Value} (X : K.In h) (G : h.Ns mainGlobals mg) (a : PySem.W.nsIn K mainGlobals "kernel_of" = some (some (.ref f))) (l : K.lookup f = some ⟨oc, od, .func (PySem.W.fnOf "kernel_of" "kernel_of" (defArgs s_kernel_of) (defBody s_kernel_of) (defScope s_kernel_of) .none kV dc pm an cd ct), sl⟩) (c : PySem.W.codeIn K cd "kernel_of" = true) (k : PySem.W.keepIn K (.ref f) = true) :
    Df K mg "kernel_of" s_kernel_of f (PySem.W.fnOf "kernel_of" "kernel_of" (defArgs s_kernel_of) (defBody s_kernel_of) (defScope s_kernel_of) .none kV dc pm an cd ct) P_kernel_of := ⟨fun_mk (st := s_kernel_of) l c k, PySem.W.mg_of X G a, (fun_mk (st := s_kernel_of) l c k).binds fun _ _ _ _ _ _ us hl => match us, hl with | [_], _ => rfl⟩
theorem mk_is_division {K : PySem.W.Frag} {h : Heap} {mg : Str → Option Value} {f : Addr} {od an : Option Addr} {sl : Array (Option Value)} {oc kV dc pm cd ct : Value} (X : K.In h) (G : h.Ns mainGlobals mg) (a : PySem.W.nsIn K mainGlobals "is_division" = some (some (.ref f))) (l : K.lookup f = some ⟨oc, od, .func (PySem.W.fnOf "is_division" "is_division" (defArgs s_is_division) (defBody s_is_division) (defScope s_is_division) .none kV dc pm an cd ct), sl⟩) (c : PySem.W.codeIn K cd "is_division" = true) (k : PySem.W.keepIn K (.ref f) = true) :
    Df K mg "is_division" s_is_division f (PySem.W.fnOf "is_division" "is_division" (defArgs s_is_division) (defBody s_is_division) (defScope s_is_division) .none kV dc pm an cd ct) P_is_division := ⟨fun_mk (st := s_is_division) l c k, PySem.W.mg_of X G a, (fun_mk (st := s_is_division) l c k).binds fun _ _ _ _ _ _ us hl => match us, hl with | [_, _], _ => rfl⟩
theorem mk_is_face {K : PySem.W.Frag} {h : Heap} {mg : Str → Option Value} {f : Addr} {od an : Option Addr} {sl : Array (Option Value)} {oc kV dc pm cd ct : Value} (X : K.In h) (G : h.Ns mainGlobals mg) (a : PySem.W.nsIn K mainGlobals "is_face" = some (some (.ref f))) (l : K.lookup f = some ⟨oc, od, .func (PySem.W.fnOf "is_face" "is_face" (defArgs s_is_face) (defBody s_is_face) (defScope s_is_face) .none kV dc pm an cd ct), sl⟩) (c : PySem.W.codeIn K cd "is_face" = true) (k : PySem.W.keepIn K (.ref f) = true) :
    Df K mg "is_face" s_is_face f (PySem.W.fnOf "is_face" "is_face" (defArgs s_is_face) (defBody s_is_face) (defScope s_is_face) .none kV dc pm an cd ct) P_is_face := ⟨fun_mk (st := s_is_face) l c k, PySem.W.mg_of X G a, (fun_mk (st := s_is_face) l c k).binds fun _ _ _ _ _ _ us hl => match us, hl with | [_, _], _ => rfl⟩
theorem mk_face_machine {K : PySem.W.Frag} {h : Heap} {mg : Str → Option Value} {f : Addr} {od an : Option Addr} {sl : Array (Option Value)} {oc kV dc pm cd ct : Value} (X : K.In h) (G : h.Ns mainGlobals mg) (a : PySem.W.nsIn K mainGlobals "face_machine" = some (some (.ref f))) (l : K.lookup f = some ⟨oc, od, .func (PySem.W.fnOf "face_machine" "face_machine" (defArgs s_face_machine) (defBody s_face_machine) (defScope s_face_machine) .none kV dc pm an cd ct), sl⟩) (c : PySem.W.codeIn K cd "face_machine" = true) (k : PySem.W.keepIn K (.ref f) = true) :
    Df K mg "face_machine" s_face_machine f (PySem.W.fnOf "face_machine" "face_machine" (defArgs s_face_machine) (defBody s_face_machine) (defScope s_face_machine) .none kV dc pm an cd ct) P_face_machine := ⟨fun_mk (st := s_face_machine) l c k, PySem.W.mg_of X G a, (fun_mk (st := s_face_machine) l c k).binds fun _ _ _ _ _ _ us hl => match us, hl with | [_, _], _ => rfl⟩
theorem mk_refuse_no_face {K : PySem.W.Frag} {h : Heap} {mg : Str → Option Value} {f : Addr} {od an : Option Addr} {sl : Array (Option Value)} {oc kV dc pm cd ct : Value} (X : K.In h) (G : h.Ns mainGlobals mg) (a : PySem.W.nsIn K mainGlobals "_refuse_no_face" = some (some (.ref f))) (l : K.lookup f = some ⟨oc, od, .func (PySem.W.fnOf "_refuse_no_face" "_refuse_no_face" (defArgs s_refuse_no_face) (defBody s_refuse_no_face) (defScope s_refuse_no_face) .none kV dc pm an cd ct), sl⟩) (c : PySem.W.codeIn K cd "_refuse_no_face" = true) (k : PySem.W.keepIn K (.ref f) = true) :
    Df K mg "_refuse_no_face" s_refuse_no_face f (PySem.W.fnOf "_refuse_no_face" "_refuse_no_face" (defArgs s_refuse_no_face) (defBody s_refuse_no_face) (defScope s_refuse_no_face) .none kV dc pm an cd ct) P_refuse_no_face := ⟨fun_mk (st := s_refuse_no_face) l c k, PySem.W.mg_of X G a, (fun_mk (st := s_refuse_no_face) l c k).binds fun _ _ _ _ _ _ us hl => match us, hl with | [_, _, _], _ => rfl⟩
theorem mk_closed_face {K : PySem.W.Frag} {h : Heap} {mg : Str → Option Value} {f : Addr} {od an : Option Addr} {sl : Array (Option Value)} {oc kV dc pm cd ct : Value} (X : K.In h) (G : h.Ns mainGlobals mg) (a : PySem.W.nsIn K mainGlobals "closed_face" = some (some (.ref f))) (l : K.lookup f = some ⟨oc, od, .func (PySem.W.fnOf "closed_face" "closed_face" (defArgs s_closed_face) (defBody s_closed_face) (defScope s_closed_face) .none kV dc pm an cd ct), sl⟩) (c : PySem.W.codeIn K cd "closed_face" = true) (k : PySem.W.keepIn K (.ref f) = true) :
    Df K mg "closed_face" s_closed_face f (PySem.W.fnOf "closed_face" "closed_face" (defArgs s_closed_face) (defBody s_closed_face) (defScope s_closed_face) .none kV dc pm an cd ct) P_closed_face := ⟨fun_mk (st := s_closed_face) l c k, PySem.W.mg_of X G a, (fun_mk (st := s_closed_face) l c k).binds fun _ _ _ _ _ _ us hl => match us, hl with | [_, _], _ => rfl⟩
theorem mk_is_pair {K : PySem.W.Frag} {h : Heap} {mg : Str → Option Value} {f : Addr} {od an : Option Addr} {sl : Array (Option Value)} {oc kV dc pm cd ct : Value} (X : K.In h) (G : h.Ns mainGlobals mg) (a : PySem.W.nsIn K mainGlobals "_is_pair" = some (some (.ref f))) (l : K.lookup f = some ⟨oc, od, .func (PySem.W.fnOf "_is_pair" "_is_pair" (defArgs s_is_pair) (defBody s_is_pair) (defScope s_is_pair) .none kV dc pm an cd ct), sl⟩) (c : PySem.W.codeIn K cd "_is_pair" = true) (k : PySem.W.keepIn K (.ref f) = true) :
    Df K mg "_is_pair" s_is_pair f (PySem.W.fnOf "_is_pair" "_is_pair" (defArgs s_is_pair) (defBody s_is_pair) (defScope s_is_pair) .none kV dc pm an cd ct) P_is_pair := ⟨fun_mk (st := s_is_pair) l c k, PySem.W.mg_of X G a, (fun_mk (st := s_is_pair) l c k).binds fun _ _ _ _ _ _ us hl => match us, hl with | [_, _], _ => rfl⟩
theorem mk_wider_face {K : PySem.W.Frag} {h : Heap} {mg : Str → Option Value} {f : Addr} {od an : Option Addr} {sl : Array (Option Value)} {oc kV dc pm cd ct : Value} (X : K.In h) (G : h.Ns mainGlobals mg) (a : PySem.W.nsIn K mainGlobals "wider_face" = some (some (.ref f))) (l : K.lookup f = some ⟨oc, od, .func (PySem.W.fnOf "wider_face" "wider_face" (defArgs s_wider_face) (defBody s_wider_face) (defScope s_wider_face) .none kV dc pm an cd ct), sl⟩) (c : PySem.W.codeIn K cd "wider_face" = true) (k : PySem.W.keepIn K (.ref f) = true) :
    Df K mg "wider_face" s_wider_face f (PySem.W.fnOf "wider_face" "wider_face" (defArgs s_wider_face) (defBody s_wider_face) (defScope s_wider_face) .none kV dc pm an cd ct) P_wider_face := ⟨fun_mk (st := s_wider_face) l c k, PySem.W.mg_of X G a, (fun_mk (st := s_wider_face) l c k).binds fun _ _ _ _ _ _ us hl => match us, hl with | [_, _, _], _ => rfl⟩
theorem mk_common_face {K : PySem.W.Frag} {h : Heap} {mg : Str → Option Value} {f : Addr} {od an : Option Addr} {sl : Array (Option Value)} {oc kV dc pm cd ct : Value} (X : K.In h) (G : h.Ns mainGlobals mg) (a : PySem.W.nsIn K mainGlobals "common_face" = some (some (.ref f))) (l : K.lookup f = some ⟨oc, od, .func (PySem.W.fnOf "common_face" "common_face" (defArgs s_common_face) (defBody s_common_face) (defScope s_common_face) .none kV dc pm an cd ct), sl⟩) (c : PySem.W.codeIn K cd "common_face" = true) (k : PySem.W.keepIn K (.ref f) = true) :
    Df K mg "common_face" s_common_face f (PySem.W.fnOf "common_face" "common_face" (defArgs s_common_face) (defBody s_common_face) (defScope s_common_face) .none kV dc pm an cd ct) P_common_face := ⟨fun_mk (st := s_common_face) l c k, PySem.W.mg_of X G a, (fun_mk (st := s_common_face) l c k).binds fun _ _ _ _ _ _ us hl => match us, hl with | [_, _, _], _ => rfl⟩
theorem mk_law_draw {K : PySem.W.Frag} {h : Heap} {mg : Str → Option Value} {f : Addr} {od an : Option Addr} {sl : Array (Option Value)} {oc kV dc pm cd ct : Value} (X : K.In h) (G : h.Ns mainGlobals mg) (a : PySem.W.nsIn K mainGlobals "_law_draw" = some (some (.ref f))) (l : K.lookup f = some ⟨oc, od, .func (PySem.W.fnOf "_law_draw" "_law_draw" (defArgs s_law_draw) (defBody s_law_draw) (defScope s_law_draw) .none kV dc pm an cd ct), sl⟩) (c : PySem.W.codeIn K cd "_law_draw" = true) (k : PySem.W.keepIn K (.ref f) = true) :
    Df K mg "_law_draw" s_law_draw f (PySem.W.fnOf "_law_draw" "_law_draw" (defArgs s_law_draw) (defBody s_law_draw) (defScope s_law_draw) .none kV dc pm an cd ct) P_law_draw := ⟨fun_mk (st := s_law_draw) l c k, PySem.W.mg_of X G a, (fun_mk (st := s_law_draw) l c k).binds fun _ _ _ _ _ _ us hl => match us, hl with | [_, _], _ => rfl⟩
theorem mk_law_any {K : PySem.W.Frag} {h : Heap} {mg : Str → Option Value} {f : Addr} {od an : Option Addr} {sl : Array (Option Value)} {oc kV dc pm cd ct : Value} (X : K.In h) (G : h.Ns mainGlobals mg) (a : PySem.W.nsIn K mainGlobals "_law_any" = some (some (.ref f))) (l : K.lookup f = some ⟨oc, od, .func (PySem.W.fnOf "_law_any" "_law_any" (defArgs s_law_any) (defBody s_law_any) (defScope s_law_any) .none kV dc pm an cd ct), sl⟩) (c : PySem.W.codeIn K cd "_law_any" = true) (k : PySem.W.keepIn K (.ref f) = true) :
    Df K mg "_law_any" s_law_any f (PySem.W.fnOf "_law_any" "_law_any" (defArgs s_law_any) (defBody s_law_any) (defScope s_law_any) .none kV dc pm an cd ct) P_law_any := ⟨fun_mk (st := s_law_any) l c k, PySem.W.mg_of X G a, (fun_mk (st := s_law_any) l c k).binds fun _ _ _ _ _ _ us hl => match us, hl with | [_, _], _ => rfl⟩
theorem mk_law_of {K : PySem.W.Frag} {h : Heap} {mg : Str → Option Value} {f : Addr} {od an : Option Addr} {sl : Array (Option Value)} {oc kV dc pm cd ct : Value} (X : K.In h) (G : h.Ns mainGlobals mg) (a : PySem.W.nsIn K mainGlobals "_law_of" = some (some (.ref f))) (l : K.lookup f = some ⟨oc, od, .func (PySem.W.fnOf "_law_of" "_law_of" (defArgs s_law_of) (defBody s_law_of) (defScope s_law_of) .none kV dc pm an cd ct), sl⟩) (c : PySem.W.codeIn K cd "_law_of" = true) (k : PySem.W.keepIn K (.ref f) = true) :
    Df K mg "_law_of" s_law_of f (PySem.W.fnOf "_law_of" "_law_of" (defArgs s_law_of) (defBody s_law_of) (defScope s_law_of) .none kV dc pm an cd ct) P_law_of := ⟨fun_mk (st := s_law_of) l c k, PySem.W.mg_of X G a, (fun_mk (st := s_law_of) l c k).binds fun _ _ _ _ _ _ us hl => match us, hl with | [_, _], _ => rfl⟩
theorem mk_law_mixed {K : PySem.W.Frag} {h : Heap} {mg : Str → Option Value} {f : Addr} {od an : Option Addr} {sl : Array (Option Value)} {oc kV dc pm cd ct : Value} (X : K.In h) (G : h.Ns mainGlobals mg) (a : PySem.W.nsIn K mainGlobals "_law_mixed" = some (some (.ref f))) (l : K.lookup f = some ⟨oc, od, .func (PySem.W.fnOf "_law_mixed" "_law_mixed" (defArgs s_law_mixed) (defBody s_law_mixed) (defScope s_law_mixed) .none kV dc pm an cd ct), sl⟩) (c : PySem.W.codeIn K cd "_law_mixed" = true) (k : PySem.W.keepIn K (.ref f) = true) :
    Df K mg "_law_mixed" s_law_mixed f (PySem.W.fnOf "_law_mixed" "_law_mixed" (defArgs s_law_mixed) (defBody s_law_mixed) (defScope s_law_mixed) .none kV dc pm an cd ct) P_law_mixed := ⟨fun_mk (st := s_law_mixed) l c k, PySem.W.mg_of X G a, (fun_mk (st := s_law_mixed) l c k).binds fun _ _ _ _ _ _ us hl => match us, hl with | [_, _], _ => rfl⟩
theorem mk_law_columns {K : PySem.W.Frag} {h : Heap} {mg : Str → Option Value} {f : Addr} {od an : Option Addr} {sl : Array (Option Value)} {oc kV dc pm cd ct : Value} (X : K.In h) (G : h.Ns mainGlobals mg) (a : PySem.W.nsIn K mainGlobals "_law_columns" = some (some (.ref f))) (l : K.lookup f = some ⟨oc, od, .func (PySem.W.fnOf "_law_columns" "_law_columns" (defArgs s_law_columns) (defBody s_law_columns) (defScope s_law_columns) .none kV dc pm an cd ct), sl⟩) (c : PySem.W.codeIn K cd "_law_columns" = true) (k : PySem.W.keepIn K (.ref f) = true) :
    Df K mg "_law_columns" s_law_columns f (PySem.W.fnOf "_law_columns" "_law_columns" (defArgs s_law_columns) (defBody s_law_columns) (defScope s_law_columns) .none kV dc pm an cd ct) P_law_columns := ⟨fun_mk (st := s_law_columns) l c k, PySem.W.mg_of X G a, (fun_mk (st := s_law_columns) l c k).binds fun _ _ _ _ _ _ us hl => match us, hl with | [_], _ => rfl⟩
theorem mk_law_column {K : PySem.W.Frag} {h : Heap} {mg : Str → Option Value} {f : Addr} {od an : Option Addr} {sl : Array (Option Value)} {oc kV dc pm cd ct : Value} (X : K.In h) (G : h.Ns mainGlobals mg) (a : PySem.W.nsIn K mainGlobals "_law_column" = some (some (.ref f))) (l : K.lookup f = some ⟨oc, od, .func (PySem.W.fnOf "_law_column" "_law_column" (defArgs s_law_column) (defBody s_law_column) (defScope s_law_column) .none kV dc pm an cd ct), sl⟩) (c : PySem.W.codeIn K cd "_law_column" = true) (k : PySem.W.keepIn K (.ref f) = true) :
    Df K mg "_law_column" s_law_column f (PySem.W.fnOf "_law_column" "_law_column" (defArgs s_law_column) (defBody s_law_column) (defScope s_law_column) .none kV dc pm an cd ct) P_law_column := ⟨fun_mk (st := s_law_column) l c k, PySem.W.mg_of X G a, (fun_mk (st := s_law_column) l c k).binds fun _ _ _ _ _ _ us hl => match us, hl with | [_, _, _], _ => rfl⟩
theorem mk_law_machine {K : PySem.W.Frag} {h : Heap} {mg : Str → Option Value} {f : Addr} {od an : Option Addr} {sl : Array (Option Value)} {oc kV dc pm cd ct : Value} (X : K.In h) (G : h.Ns mainGlobals mg) (a : PySem.W.nsIn K mainGlobals "_law_machine" = some (some (.ref f))) (l : K.lookup f = some ⟨oc, od, .func (PySem.W.fnOf "_law_machine" "_law_machine" (defArgs s_law_machine) (defBody s_law_machine) (defScope s_law_machine) .none kV dc pm an cd ct), sl⟩) (c : PySem.W.codeIn K cd "_law_machine" = true) (k : PySem.W.keepIn K (.ref f) = true) :
    Df K mg "_law_machine" s_law_machine f (PySem.W.fnOf "_law_machine" "_law_machine" (defArgs s_law_machine) (defBody s_law_machine) (defScope s_law_machine) .none kV dc pm an cd ct) P_law_machine := ⟨fun_mk (st := s_law_machine) l c k, PySem.W.mg_of X G a, (fun_mk (st := s_law_machine) l c k).binds fun _ _ _ _ _ _ us hl => match us, hl with | [_, _], _ => rfl⟩
theorem mk_law_columns_of {K : PySem.W.Frag} {h : Heap} {mg : Str → Option Value} {f : Addr} {od an : Option Addr} {sl : Array (Option Value)} {oc kV dc pm cd ct : Value} (X : K.In h) (G : h.Ns mainGlobals mg) (a : PySem.W.nsIn K mainGlobals "_law_columns_of" = some (some (.ref f))) (l : K.lookup f = some ⟨oc, od, .func (PySem.W.fnOf "_law_columns_of" "_law_columns_of" (defArgs s_law_columns_of) (defBody s_law_columns_of) (defScope s_law_columns_of) .none kV dc pm an cd ct), sl⟩) (c : PySem.W.codeIn K cd "_law_columns_of" = true) (k : PySem.W.keepIn K (.ref f) = true) :
    Df K mg "_law_columns_of" s_law_columns_of f (PySem.W.fnOf "_law_columns_of" "_law_columns_of" (defArgs s_law_columns_of) (defBody s_law_columns_of) (defScope s_law_columns_of) .none kV dc pm an cd ct) P_law_columns_of := ⟨fun_mk (st := s_law_columns_of) l c k, PySem.W.mg_of X G a, (fun_mk (st := s_law_columns_of) l c k).binds fun _ _ _ _ _ _ us hl => match us, hl with | [_, _, _], _ => rfl⟩
theorem mk_law_graded {K : PySem.W.Frag} {h : Heap} {mg : Str → Option Value} {f : Addr} {od an : Option Addr} {sl : Array (Option Value)} {oc kV dc pm cd ct : Value} (X : K.In h) (G : h.Ns mainGlobals mg) (a : PySem.W.nsIn K mainGlobals "_law_graded" = some (some (.ref f))) (l : K.lookup f = some ⟨oc, od, .func (PySem.W.fnOf "_law_graded" "_law_graded" (defArgs s_law_graded) (defBody s_law_graded) (defScope s_law_graded) .none kV dc pm an cd ct), sl⟩) (c : PySem.W.codeIn K cd "_law_graded" = true) (k : PySem.W.keepIn K (.ref f) = true) :
    Df K mg "_law_graded" s_law_graded f (PySem.W.fnOf "_law_graded" "_law_graded" (defArgs s_law_graded) (defBody s_law_graded) (defScope s_law_graded) .none kV dc pm an cd ct) P_law_graded := ⟨fun_mk (st := s_law_graded) l c k, PySem.W.mg_of X G a, (fun_mk (st := s_law_graded) l c k).binds fun _ _ _ _ _ _ us hl => match us, hl with | [_], _ => rfl⟩
theorem mk_law_any_machine {K : PySem.W.Frag} {h : Heap} {mg : Str → Option Value} {f : Addr} {od an : Option Addr} {sl : Array (Option Value)} {oc kV dc pm cd ct : Value} (X : K.In h) (G : h.Ns mainGlobals mg) (a : PySem.W.nsIn K mainGlobals "_law_any_machine" = some (some (.ref f))) (l : K.lookup f = some ⟨oc, od, .func (PySem.W.fnOf "_law_any_machine" "_law_any_machine" (defArgs s_law_any_machine) (defBody s_law_any_machine) (defScope s_law_any_machine) .none kV dc pm an cd ct), sl⟩) (c : PySem.W.codeIn K cd "_law_any_machine" = true) (k : PySem.W.keepIn K (.ref f) = true) :
    Df K mg "_law_any_machine" s_law_any_machine f (PySem.W.fnOf "_law_any_machine" "_law_any_machine" (defArgs s_law_any_machine) (defBody s_law_any_machine) (defScope s_law_any_machine) .none kV dc pm an cd ct) P_law_any_machine := ⟨fun_mk (st := s_law_any_machine) l c k, PySem.W.mg_of X G a, (fun_mk (st := s_law_any_machine) l c k).binds fun _ _ _ _ _ _ us hl => match us, hl with | [_], _ => rfl⟩
theorem mk_law_layered {K : PySem.W.Frag} {h : Heap} {mg : Str → Option Value} {f : Addr} {od an : Option Addr} {sl : Array (Option Value)} {oc kV dc pm cd ct : Value} (X : K.In h) (G : h.Ns mainGlobals mg) (a : PySem.W.nsIn K mainGlobals "_law_layered" = some (some (.ref f))) (l : K.lookup f = some ⟨oc, od, .func (PySem.W.fnOf "_law_layered" "_law_layered" (defArgs s_law_layered) (defBody s_law_layered) (defScope s_law_layered) .none kV dc pm an cd ct), sl⟩) (c : PySem.W.codeIn K cd "_law_layered" = true) (k : PySem.W.keepIn K (.ref f) = true) :
    Df K mg "_law_layered" s_law_layered f (PySem.W.fnOf "_law_layered" "_law_layered" (defArgs s_law_layered) (defBody s_law_layered) (defScope s_law_layered) .none kV dc pm an cd ct) P_law_layered := ⟨fun_mk (st := s_law_layered) l c k, PySem.W.mg_of X G a, (fun_mk (st := s_law_layered) l c k).binds fun _ _ _ _ _ _ us hl => match us, hl with | [_], _ => rfl⟩
theorem mk_law_some_machine {K : PySem.W.Frag} {h : Heap} {mg : Str → Option Value} {f : Addr} {od an : Option Addr} {sl : Array (Option Value)} {oc kV dc pm cd ct : Value} (X : K.In h) (G : h.Ns mainGlobals mg) (a : PySem.W.nsIn K mainGlobals "_law_some_machine" = some (some (.ref f))) (l : K.lookup f = some ⟨oc, od, .func (PySem.W.fnOf "_law_some_machine" "_law_some_machine" (defArgs s_law_some_machine) (defBody s_law_some_machine) (defScope s_law_some_machine) .none kV dc pm an cd ct), sl⟩) (c : PySem.W.codeIn K cd "_law_some_machine" = true) (k : PySem.W.keepIn K (.ref f) = true) :
    Df K mg "_law_some_machine" s_law_some_machine f (PySem.W.fnOf "_law_some_machine" "_law_some_machine" (defArgs s_law_some_machine) (defBody s_law_some_machine) (defScope s_law_some_machine) .none kV dc pm an cd ct) P_law_some_machine := ⟨fun_mk (st := s_law_some_machine) l c k, PySem.W.mg_of X G a, (fun_mk (st := s_law_some_machine) l c k).binds fun _ _ _ _ _ _ us hl => match us, hl with | [_], _ => rfl⟩
theorem mk_law_parts {K : PySem.W.Frag} {h : Heap} {mg : Str → Option Value} {f : Addr} {od an : Option Addr} {sl : Array (Option Value)} {oc kV dc pm cd ct : Value} (X : K.In h) (G : h.Ns mainGlobals mg) (a : PySem.W.nsIn K mainGlobals "_law_parts" = some (some (.ref f))) (l : K.lookup f = some ⟨oc, od, .func (PySem.W.fnOf "_law_parts" "_law_parts" (defArgs s_law_parts) (defBody s_law_parts) (defScope s_law_parts) .none kV dc pm an cd ct), sl⟩) (c : PySem.W.codeIn K cd "_law_parts" = true) (k : PySem.W.keepIn K (.ref f) = true) :
    Df K mg "_law_parts" s_law_parts f (PySem.W.fnOf "_law_parts" "_law_parts" (defArgs s_law_parts) (defBody s_law_parts) (defScope s_law_parts) .none kV dc pm an cd ct) P_law_parts := ⟨fun_mk (st := s_law_parts) l c k, PySem.W.mg_of X G a, (fun_mk (st := s_law_parts) l c k).binds fun _ _ _ _ _ _ us hl => match us, hl with | [_], _ => rfl⟩
theorem mk_law_is_face {K : PySem.W.Frag} {h : Heap} {mg : Str → Option Value} {f : Addr} {od an : Option Addr} {sl : Array (Option Value)} {oc kV dc pm cd ct : Value} (X : K.In h) (G : h.Ns mainGlobals mg) (a : PySem.W.nsIn K mainGlobals "_law_is_face" = some (some (.ref f))) (l : K.lookup f = some ⟨oc, od, .func (PySem.W.fnOf "_law_is_face" "_law_is_face" (defArgs s_law_is_face) (defBody s_law_is_face) (defScope s_law_is_face) .none kV dc pm an cd ct), sl⟩) (c : PySem.W.codeIn K cd "_law_is_face" = true) (k : PySem.W.keepIn K (.ref f) = true) :
    Df K mg "_law_is_face" s_law_is_face f (PySem.W.fnOf "_law_is_face" "_law_is_face" (defArgs s_law_is_face) (defBody s_law_is_face) (defScope s_law_is_face) .none kV dc pm an cd ct) P_law_is_face := ⟨fun_mk (st := s_law_is_face) l c k, PySem.W.mg_of X G a, (fun_mk (st := s_law_is_face) l c k).binds fun _ _ _ _ _ _ us hl => match us, hl with | [_, _], _ => rfl⟩
theorem mk_law_common {K : PySem.W.Frag} {h : Heap} {mg : Str → Option Value} {f : Addr} {od an : Option Addr} {sl : Array (Option Value)} {oc kV dc pm cd ct : Value} (X : K.In h) (G : h.Ns mainGlobals mg) (a : PySem.W.nsIn K mainGlobals "_law_common" = some (some (.ref f))) (l : K.lookup f = some ⟨oc, od, .func (PySem.W.fnOf "_law_common" "_law_common" (defArgs s_law_common) (defBody s_law_common) (defScope s_law_common) .none kV dc pm an cd ct), sl⟩) (c : PySem.W.codeIn K cd "_law_common" = true) (k : PySem.W.keepIn K (.ref f) = true) :
    Df K mg "_law_common" s_law_common f (PySem.W.fnOf "_law_common" "_law_common" (defArgs s_law_common) (defBody s_law_common) (defScope s_law_common) .none kV dc pm an cd ct) P_law_common := ⟨fun_mk (st := s_law_common) l c k, PySem.W.mg_of X G a, (fun_mk (st := s_law_common) l c k).binds fun _ _ _ _ _ _ us hl => match us, hl with | [_, _], _ => rfl⟩
theorem mk_law_classes {K : PySem.W.Frag} {h : Heap} {mg : Str → Option Value} {f : Addr} {od an : Option Addr} {sl : Array (Option Value)} {oc kV dc pm cd ct : Value} (X : K.In h) (G : h.Ns mainGlobals mg) (a : PySem.W.nsIn K mainGlobals "_law_classes" = some (some (.ref f))) (l : K.lookup f = some ⟨oc, od, .func (PySem.W.fnOf "_law_classes" "_law_classes" (defArgs s_law_classes) (defBody s_law_classes) (defScope s_law_classes) .none kV dc pm an cd ct), sl⟩) (c : PySem.W.codeIn K cd "_law_classes" = true) (k : PySem.W.keepIn K (.ref f) = true) :
    Df K mg "_law_classes" s_law_classes f (PySem.W.fnOf "_law_classes" "_law_classes" (defArgs s_law_classes) (defBody s_law_classes) (defScope s_law_classes) .none kV dc pm an cd ct) P_law_classes := ⟨fun_mk (st := s_law_classes) l c k, PySem.W.mg_of X G a, (fun_mk (st := s_law_classes) l c k).binds fun _ _ _ _ _ _ us hl => match us, hl with | [_, _], _ => rfl⟩
theorem mk_law_asked {K : PySem.W.Frag} {h : Heap} {mg : Str → Option Value} {f : Addr} {od an : Option Addr} {sl : Array (Option Value)} {oc kV dc pm cd ct : Value} (X : K.In h) (G : h.Ns mainGlobals mg) (a : PySem.W.nsIn K mainGlobals "_law_asked" = some (some (.ref f))) (l : K.lookup f = some ⟨oc, od, .func (PySem.W.fnOf "_law_asked" "_law_asked" (defArgs s_law_asked) (defBody s_law_asked) (defScope s_law_asked) .none kV dc pm an cd ct), sl⟩) (c : PySem.W.codeIn K cd "_law_asked" = true) (k : PySem.W.keepIn K (.ref f) = true) :
    Df K mg "_law_asked" s_law_asked f (PySem.W.fnOf "_law_asked" "_law_asked" (defArgs s_law_asked) (defBody s_law_asked) (defScope s_law_asked) .none kV dc pm an cd ct) P_law_asked := ⟨fun_mk (st := s_law_asked) l c k, PySem.W.mg_of X G a, (fun_mk (st := s_law_asked) l c k).binds fun _ _ _ _ _ _ us hl => match us, hl with | [_, _, _, _], _ => rfl⟩
theorem mk_law_odd_face {K : PySem.W.Frag} {h : Heap} {mg : Str → Option Value} {f : Addr} {od an : Option Addr} {sl : Array (Option Value)} {oc kV dc pm cd ct : Value} (X : K.In h) (G : h.Ns mainGlobals mg) (a : PySem.W.nsIn K mainGlobals "_law_odd_face" = some (some (.ref f))) (l : K.lookup f = some ⟨oc, od, .func (PySem.W.fnOf "_law_odd_face" "_law_odd_face" (defArgs s_law_odd_face) (defBody s_law_odd_face) (defScope s_law_odd_face) .none kV dc pm an cd ct), sl⟩) (c : PySem.W.codeIn K cd "_law_odd_face" = true) (k : PySem.W.keepIn K (.ref f) = true) :
    Df K mg "_law_odd_face" s_law_odd_face f (PySem.W.fnOf "_law_odd_face" "_law_odd_face" (defArgs s_law_odd_face) (defBody s_law_odd_face) (defScope s_law_odd_face) .none kV dc pm an cd ct) P_law_odd_face := ⟨fun_mk (st := s_law_odd_face) l c k, PySem.W.mg_of X G a, (fun_mk (st := s_law_odd_face) l c k).binds fun _ _ _ _ _ _ us hl => match us, hl with | [_, _], _ => rfl⟩
/-- an error of a class is taken by a clause that names the class, or not -/
theorem exm_of {K : PySem.W.Frag} {S R : Addr} {b : Bool} (h1 : PySem.W.subIn K (.ref R) (.type "BaseException") = some true) (h2 : PySem.W.isClsIn K R = true) (h3 : PySem.W.typeIn K (.ref R) = some (.type "type")) (h4 : PySem.W.subIn K (.ref S) (.ref R) = some b) : PySem.W.exmOne K (.ref S) (.ref R) = some b := by
  have e1 : (PySem.W.subIn K (.ref R) (.type "BaseException") == some true) = true := by rw [h1] <;> rfl
  have e2 : ((PySem.W.clsIn K R).isSome && PySem.W.typeIn K (.ref R) == some (.type "type")) = true := by
    have q : (PySem.W.clsIn K R).isSome = true := h2
    rw [q, h3] <;> rfl
  show (if (PySem.W.subIn K (.ref R) (.type "BaseException") == some true) = true then (if ((PySem.W.clsIn K R).isSome && PySem.W.typeIn K (.ref R) == some (.type "type")) = true then PySem.W.subIn K (.ref S) (.ref R) else none) else none) = some b
  rw [if_pos e1, if_pos e2]
  exact h4
/-- what is told of an error's class and of its __init__ -/
structure ErrF (K : PySem.W.Frag) (C fI : Addr) : Prop where
  sa : PySem.W.findIn K (.ref C) "__setattr__" = some (some (.builtin "object.__setattr__"))
  ga : PySem.W.findIn K (.ref C) "__getattribute__" = some (some (.builtin "BaseException.__getattribute__"))
  gg : PySem.W.findIn K (.ref C) "__getattr__" = some none
  nb : PySem.W.findIn K (.ref C) "at" = some none
  a : PySem.W.findIn K (.ref C) "__init__" = some (some (.ref fI))
  t : PySem.W.typeIn K (.ref fI) = some (.type "function")
  k : PySem.W.keepIn K (.ref C) = true
  e : PySem.W.subIn K (.ref C) (.type "BaseException") = some true
  tC : PySem.W.typeIn K (.ref C) = some (.type "type")
  h : PySem.W.hasDictIn K C = true
  i : PySem.W.isClsIn K C = true
  s : PySem.W.subIn K (.ref C) (.ref C) = some true
theorem err_mk {K : PySem.W.Frag} {h : Heap} {mg : Str → Option Value} {cn qn : Str} {C fI : Addr} {st : Stmt} {od an : Option Addr} {sl : Array (Option Value)} {oc dc pm cd ct : Value} {p1 p2 q1 q2 q3 q4 : Pos} {nm q : Str} {S N : Addr} {bs : List Value} {sn : List Str} {sub : List Value} {ab : Bool} {col : Option Bool} {dd : Option Addr} {m0 m1 m2 m3 m5 : Option Value} (X : K.In h) (G : h.Ns mainGlobals mg) (aC : PySem.W.nsIn K mainGlobals cn = some (some (.ref C))) (xL : K.lookup C = some (excClassObj nm q C N bs [.ref S, .type "ValueError", .type "Exception", .type "BaseException", .type "object"] true sn sub ab col dd m0 m1 m2 m3 m5 "ValueError.__new__")) (F : ErrF K C fI)
    (l : K.lookup fI = some ⟨oc, od, .func (PySem.W.fnOf "__init__" qn (defArgs st) (defBody st) (defScope st) .none .none dc pm an cd ct), sl⟩) (c : PySem.W.codeIn K cd qn = true) (e1 : defArgs st = PySem.ErrX.iA p1 p2) (e2 : defBody st = PySem.ErrX.iB q1 q2 q3 q4) (e3 : defScope st = PySem.ErrX.iS) : PySem.ErrX.ErrTxt K mg cn qn C fI := by
  rw [e1, e2, e3] at l
  exact { gC := PySem.W.mg_of X G aC, cls := ⟨nm, q, N, bs, _, sn, sub, ab, col, dd, m0, m1, m2, m3, m5, xL, by show PySem.HandSPX.refsVE [.type "ValueError", .type "Exception", .type "BaseException", .type "object"] = true; decide +kernel⟩, sa := F.sa, ga := F.ga, gg := F.gg, noN := F.nb, iC := F.a, tC := F.t, kC := F.k, exC := F.e, tyC := F.tC, hdC := F.h, te := exm_of F.e F.i F.tC F.s, fn := ⟨oc, od, dc, pm, an, cd, ct, sl, _, _, _, _, _, _, l, c⟩ }
end Lk

set_option Elab.async false
set_option linter.all false
set_option maxRecDepth 100000
set_option maxHeartbeats 8000000
namespace Lk
open PySem L2
/-- what is told of the class Machine -/
structure MacF (K : PySem.W.Frag) (CM fI : Addr) : Prop where
  pg : PySem.W.plainGet K CM Str.empty = true
  hd : PySem.W.hasDictIn K CM = true
  po : PySem.W.plainOver K CM = true
  sa : PySem.W.findIn K (.ref CM) "__setattr__" = some (some (.builtin "object.__setattr__"))
  n1 : PySem.W.findIn K (.ref CM) "commands" = some none
  n2 : PySem.W.findIn K (.ref CM) "states" = some none
  n3 : PySem.W.findIn K (.ref CM) "steps" = some none
  mkI : PySem.W.makesIn K CM = true
  ini : PySem.W.findIn K (.ref CM) "__init__" = some (some (.ref fI))
  fnI : PySem.W.isFn K (.ref fI) = true
  kp : PySem.W.keepIn K (.ref CM) = true
theorem all_mk {l : PySem.W.OpenLaw} {w : World} {K : PySem.W.Frag} {h : Heap} {mg : Str → Option Value} {fa f42 CM fI CE fCE CQ fCQ CR fCR : Addr} {f_is_integer f_is_number f_is_below f_is_sequence f_are_below f_is_tuple_below f_is_entry f_is_state f_is_state_tuple f_resting f_least_states f_machine_of_classes f_kernel_of f_is_division f_is_face f_face_machine f_refuse_no_face f_closed_face f_is_pair f_wider_face f_common_face f_law_draw f_law_any f_law_of f_law_mixed f_law_columns f_law_column f_law_machine f_law_columns_of f_law_graded f_law_any_machine f_law_layered f_law_some_machine f_law_parts f_law_is_face f_law_common f_law_classes f_law_asked f_law_odd_face : Addr} {g_is_integer g_is_number g_is_below g_is_sequence g_are_below g_is_tuple_below g_is_entry g_is_state g_is_state_tuple g_resting g_least_states g_machine_of_classes g_kernel_of g_is_division g_is_face g_face_machine g_refuse_no_face g_closed_face g_is_pair g_wider_face g_common_face g_law_draw g_law_any g_law_of g_law_mixed g_law_columns g_law_column g_law_machine g_law_columns_of g_law_graded g_law_any_machine g_law_layered g_law_some_machine g_law_parts g_law_is_face g_law_common g_law_classes g_law_asked g_law_odd_face : FuncData}
    {od1 an1 od2 an2 : Option Addr} {sl1 sl2 : Array (Option Value)} {oc1 kV1 dc1 pm1 cd1 ct1 oc2 kV2 dc2 pm2 cd2 ct2 : Value} (X : K.In h) (G : h.Ns mainGlobals mg) (hfa : mg "law" = some (.ref fa))
    (d_is_integer : Df K mg "is_integer" s_is_integer f_is_integer g_is_integer P_is_integer)
    (d_is_number : Df K mg "is_number" s_is_number f_is_number g_is_number P_is_number)
    (d_is_below : Df K mg "is_below" s_is_below f_is_below g_is_below P_is_below)
    (d_is_sequence : Df K mg "is_sequence" s_is_sequence f_is_sequence g_is_sequence P_is_sequence)
    (d_are_below : Df K mg "are_below" s_are_below f_are_below g_are_below P_are_below)
    (d_is_tuple_below : Df K mg "is_tuple_below" s_is_tuple_below f_is_tuple_below g_is_tuple_below P_is_tuple_below)
    (d_is_entry : Df K mg "_is_entry" s_is_entry f_is_entry g_is_entry P_is_entry)
    (d_is_state : Df K mg "is_state" s_is_state f_is_state g_is_state P_is_state)
    (d_is_state_tuple : Df K mg "is_state_tuple" s_is_state_tuple f_is_state_tuple g_is_state_tuple P_is_state_tuple)
    (d_resting : Df K mg "resting" s_resting f_resting g_resting P_resting)
    (d_least_states : Df K mg "least_states" s_least_states f_least_states g_least_states P_least_states)
    (d_machine_of_classes : Df K mg "machine_of_classes" s_machine_of_classes f_machine_of_classes g_machine_of_classes P_machine_of_classes)
    (d_kernel_of : Df K mg "kernel_of" s_kernel_of f_kernel_of g_kernel_of P_kernel_of)
    (d_is_division : Df K mg "is_division" s_is_division f_is_division g_is_division P_is_division)
    (d_is_face : Df K mg "is_face" s_is_face f_is_face g_is_face P_is_face)
    (d_face_machine : Df K mg "face_machine" s_face_machine f_face_machine g_face_machine P_face_machine)
    (d_refuse_no_face : Df K mg "_refuse_no_face" s_refuse_no_face f_refuse_no_face g_refuse_no_face P_refuse_no_face)
    (d_closed_face : Df K mg "closed_face" s_closed_face f_closed_face g_closed_face P_closed_face)
    (d_is_pair : Df K mg "_is_pair" s_is_pair f_is_pair g_is_pair P_is_pair)
    (d_wider_face : Df K mg "wider_face" s_wider_face f_wider_face g_wider_face P_wider_face)
    (d_common_face : Df K mg "common_face" s_common_face f_common_face g_common_face P_common_face)
    (d_law_draw : Df K mg "_law_draw" s_law_draw f_law_draw g_law_draw P_law_draw)
    (d_law_any : Df K mg "_law_any" s_law_any f_law_any g_law_any P_law_any)
    (d_law_of : Df K mg "_law_of" s_law_of f_law_of g_law_of P_law_of)
    (d_law_mixed : Df K mg "_law_mixed" s_law_mixed f_law_mixed g_law_mixed P_law_mixed)
    (d_law_columns : Df K mg "_law_columns" s_law_columns f_law_columns g_law_columns P_law_columns)
    (d_law_column : Df K mg "_law_column" s_law_column f_law_column g_law_column P_law_column)
    (d_law_machine : Df K mg "_law_machine" s_law_machine f_law_machine g_law_machine P_law_machine)
    (d_law_columns_of : Df K mg "_law_columns_of" s_law_columns_of f_law_columns_of g_law_columns_of P_law_columns_of)
    (d_law_graded : Df K mg "_law_graded" s_law_graded f_law_graded g_law_graded P_law_graded)
    (d_law_any_machine : Df K mg "_law_any_machine" s_law_any_machine f_law_any_machine g_law_any_machine P_law_any_machine)
    (d_law_layered : Df K mg "_law_layered" s_law_layered f_law_layered g_law_layered P_law_layered)
    (d_law_some_machine : Df K mg "_law_some_machine" s_law_some_machine f_law_some_machine g_law_some_machine P_law_some_machine)
    (d_law_parts : Df K mg "_law_parts" s_law_parts f_law_parts g_law_parts P_law_parts)
    (d_law_is_face : Df K mg "_law_is_face" s_law_is_face f_law_is_face g_law_is_face P_law_is_face)
    (d_law_common : Df K mg "_law_common" s_law_common f_law_common g_law_common P_law_common)
    (d_law_classes : Df K mg "_law_classes" s_law_classes f_law_classes g_law_classes P_law_classes)
    (d_law_asked : Df K mg "_law_asked" s_law_asked f_law_asked g_law_asked P_law_asked)
    (d_law_odd_face : Df K mg "_law_odd_face" s_law_odd_face f_law_odd_face g_law_odd_face P_law_odd_face)
    
    (a1 : PySem.W.nsIn K mainGlobals "law" = some (some (.ref f42))) (l1 : K.lookup f42 = some ⟨oc1, od1, .func (PySem.W.fnOf "law" "law" (defArgs s_law) (defBody s_law) (defScope s_law) .none kV1 dc1 pm1 an1 cd1 ct1), sl1⟩) (c1 : PySem.W.codeIn K cd1 "law" = true) (k1 : PySem.W.keepIn K (.ref f42) = true)
    (aM : PySem.W.nsIn K mainGlobals "Machine" = some (some (.ref CM))) (MF : MacF K CM fI)
    (l2 : K.lookup fI = some ⟨oc2, od2, .func (PySem.W.fnOf "__init__" "Machine.__init__" (defArgs s_Machine___init) (defBody s_Machine___init) (defScope s_Machine___init) .none kV2 dc2 pm2 an2 cd2 ct2), sl2⟩) (c2 : PySem.W.codeIn K cd2 "Machine.__init__" = true) (k2 : PySem.W.keepIn K (.ref fI) = true)
    (EM : PySem.ErrX.ErrTxt K mg "InvalidMachine" "InvalidMachine.__init__" CE fCE) (EQ : PySem.ErrX.ErrTxt K mg "InvalidQuestion" "InvalidQuestion.__init__" CQ fCQ) (ER : PySem.ErrX.ErrTxt K mg "Refused" "Refused.__init__" CR fCR) (ne : PySem.W.exmOne K (.ref CR) (.ref CQ) = some false)
    (zany : mg "any" = none) (zstr : mg "str" = none) (T : Txt mg) :
    ∃ fd : FuncData, (∀ (s : Shared) (v : Value), BindsTo s fd ⟨[v], []⟩ [("script", v)]) ∧ ∀ base : Heap, K.In base → base.Ns mainGlobals mg → FnG l.prog w K mg base 12 fa fd ["script"] (spLaw K) := by
  have e := hfa.symm.trans (PySem.W.mg_of X G a1)
  cases e
  have TC : TxC K CM := ⟨⟨MF.pg, MF.hd, MF.po, MF.sa⟩, MF.n1, MF.n2, MF.n3⟩
  have gM := PySem.W.mg_of X G aM
  have FI := fun_mk (st := s_Machine___init) l2 c2 k2
  have bI := FI.binds (ps := P_Machine___init) fun _ _ _ _ _ _ us hl => match us, hl with | [_, _, _], _ => rfl
  have MC := McT.mk (⟨MF.mkI, MF.ini, MF.fnI, MF.kp⟩ : Mk K CM fI) gM bI (kbn_rev FI fun _ _ _ _ _ _ us ws h1 h2 => match us, ws, h1, h2 with | [_], [_, _], _, _ => by first | rfl | with_unfolding_all rfl | kernel_rfl)
  have k_is_face : KBn K g_is_face P_is_face 0 ["value", "machine"] uR gR := kbn_rev d_is_face.F fun _ _ _ _ _ _ us ws h1 h2 => match us, ws, h1, h2 with | [], [_, _], _, _ => by first | rfl | with_unfolding_all rfl | kernel_rfl
  have k_closed_face : KBn K g_closed_face P_closed_face 0 ["pairs", "machine"] uR gR := kbn_rev d_closed_face.F fun _ _ _ _ _ _ us ws h1 h2 => match us, ws, h1, h2 with | [], [_, _], _, _ => by first | rfl | with_unfolding_all rfl | kernel_rfl
  have k_common_face : KBn K g_common_face P_common_face 0 ["other", "one", "machine"] uR gR := kbn_rev d_common_face.F fun _ _ _ _ _ _ us ws h1 h2 => match us, ws, h1, h2 with | [], [_, _, _], _, _ => by first | rfl | with_unfolding_all rfl | kernel_rfl
  have k_face_machine : KBn K g_face_machine P_face_machine 0 ["face", "machine"] uR gR := kbn_rev d_face_machine.F fun _ _ _ _ _ _ us ws h1 h2 => match us, ws, h1, h2 with | [], [_, _], _, _ => by first | rfl | with_unfolding_all rfl | kernel_rfl
  refine ⟨PySem.W.fnOf "law" "law" (defArgs s_law) (defBody s_law) (defScope s_law) .none kV1 dc1 pm1 an1 cd1 ct1, fun s v => .of_eq rfl, fun base _ _ => ?_⟩
  have A0 : Df K mg "law" s_law fa (PySem.W.fnOf "law" "law" (defArgs s_law) (defBody s_law) (defScope s_law) .none kV1 dc1 pm1 an1 cd1 ct1) P_law := ⟨fun_mk (st := s_law) l1 c1 k1, PySem.W.mg_of X G a1, (fun_mk (st := s_law) l1 c1 k1).binds fun _ _ _ _ _ _ us hl => match us, hl with | [_], _ => rfl⟩
  have G_is_number : FnOk l.prog w K mg base CX0 2 f_is_number g_is_number P_is_number (spT1 isN) := ok_number d_is_number d_is_integer T
  have G_is_below : FnOk l.prog w K mg base CX0 3 f_is_below g_is_below P_is_below spBelowS := ok_below d_is_below d_is_number d_is_integer T
  have GI : FnOk l.prog w K mg base (L2.CX l.prog w) 7 fI _ P_Machine___init (spInit CM CE) := ok_init FI d_is_entry d_is_sequence d_are_below d_is_below d_is_number d_is_integer T TC EM
  have G_state : FnOk l.prog w K mg base CX0 4 f_is_state g_is_state P_is_state (spState CM) := ok_state d_is_state d_is_below G_is_below TC
  have G_are : FnOk l.prog w K mg base CX0 4 f_are_below g_are_below P_are_below spAre := ok_are d_are_below d_is_below d_is_number d_is_integer T
  have G_tb : FnOk l.prog w K mg base CX0 5 f_is_tuple_below g_is_tuple_below P_is_tuple_below spTB := ok_tb d_is_tuple_below d_are_below G_are T
  have G_st : FnOk l.prog w K mg base CX0 6 f_is_state_tuple g_is_state_tuple P_is_state_tuple (spST CM) := ok_st d_is_state_tuple d_is_tuple_below G_tb T TC
  have G_kof : FnOk l.prog w K mg base CX0 1 f_kernel_of g_kernel_of P_kernel_of (spKOf (SqT K)) := ok_kof d_kernel_of T
  have G_div : FnOk l.prog w K mg base CX0 7 f_is_division g_is_division P_is_division (spDiv CM) := ok_div d_is_division d_is_state_tuple G_st d_kernel_of G_kof
  have G_face : FnOk l.prog w K mg base CX0 8 f_is_face g_is_face P_is_face (spFace CM) := ok_face d_is_face d_is_division G_div T zany TC
  have G_refuse : FnOk l.prog w K mg base (L2.CX l.prog w) 9 f_refuse_no_face g_refuse_no_face P_refuse_no_face (spRefuse CM CR) := ok_refuse d_refuse_no_face d_is_face G_face ER
  have G_classes : FnOk l.prog w K mg base (L2.CX l.prog w) 9 f_machine_of_classes g_machine_of_classes P_machine_of_classes (spClasses K CM) := ok_classes d_machine_of_classes d_least_states MC GI T TC
  have G_fm : FnOk l.prog w K mg base (L2.CX l.prog w) 10 f_face_machine g_face_machine P_face_machine (spFaceM CM CR) := ok_face_machine d_face_machine d_refuse_no_face G_refuse d_machine_of_classes G_classes
  have G_wider : FnOk l.prog w K mg base CX0 2 f_wider_face g_wider_face P_wider_face (spWider K CM) := ok_wider d_wider_face d_kernel_of G_kof T TC
  have G_pair : FnOk l.prog w K mg base CX0 5 f_is_pair g_is_pair P_is_pair (spPair CM) := ok_pair d_is_pair d_is_state G_state T
  have G_resting : FnOk l.prog w K mg base CX0 1 f_resting g_resting P_resting (spResting CM) := ok_resting d_resting T TC
  have G_closed : FnOk l.prog w K mg base (L2.CX l.prog w) 6 f_closed_face g_closed_face P_closed_face (spClosed CM CQ) := ok_closed d_closed_face d_is_sequence d_is_pair G_pair d_wider_face G_wider d_resting G_resting T EQ
  have G_common : FnOk l.prog w K mg base (L2.CX l.prog w) 10 f_common_face g_common_face P_common_face (spCommon CM CR) := ok_common d_common_face d_refuse_no_face G_refuse d_kernel_of T
  have GM : FnOk l.prog w K mg base CX0 4 f_law_machine g_law_machine P_law_machine spMachine := ok_machine d_law_machine d_law_any d_law_of d_law_mixed d_law_columns d_law_column T
  have GG : FnOk l.prog w K mg base CX0 5 f_law_graded g_law_graded P_law_graded spGraded := ok_graded d_law_graded d_law_any d_law_of d_law_machine d_law_mixed d_law_columns_of d_law_columns GM T
  have GA : FnOk l.prog w K mg base CX0 3 f_law_any_machine g_law_any_machine P_law_any_machine spAnyM := ok_anym d_law_any_machine d_law_any d_law_mixed d_law_columns T
  have GY : FnOk l.prog w K mg base CX0 3 f_law_layered g_law_layered P_law_layered spAnyM := ok_layered d_law_layered d_law_any d_law_of d_law_mixed d_law_columns T
  have GS : FnOk l.prog w K mg base CX0 6 f_law_some_machine g_law_some_machine P_law_some_machine spAnyM := ok_some d_law_some_machine d_law_any d_law_graded d_law_any_machine d_law_layered GG GA GY T
  have G_asked : FnOk l.prog w K mg base CX0 11 f_law_asked g_law_asked P_law_asked (spAsk CM) := ok_asked d_law_asked d_closed_face d_common_face d_face_machine k_closed_face k_common_face k_face_machine G_closed G_common G_fm TC EQ ER ne
  exact ok_law A0 d_law_draw d_law_some_machine d_law_parts d_law_is_face d_is_face d_law_of d_law_odd_face d_law_any d_law_common d_law_asked d_law_classes d_face_machine k_is_face GS G_face G_asked G_fm MC GI T zstr TC
theorem walk {l : PySem.W.OpenLaw} {q : Program} {loose : List Str} {XP : (Str → Option Value) → Heap → Prop} {YP : World → Heap → Prop} {d : DefRec} {K : Params → PySem.W.Frag} (hn : l.most = some 63) (hdf : d.params.defaults = []) (hY : ∀ (w : World) (h : Heap), YP w h → (K w.params).In h)
    (F : ∀ (w : World) (mg : Str → Option Value) (fa : Addr) (h : Heap), (K w.params).In h → h.Ns mainGlobals mg → mg d.name = some (.ref fa) → ∃ fd : FuncData, (∀ (s : Shared) (u : Value), BindsTo s fd ⟨[u], []⟩ [("script", u)]) ∧ ∀ base : Heap, (K w.params).In base → base.Ns mainGlobals mg → FnG l.prog w (K w.params) mg base 12 fa fd ["script"] (spLaw (K w.params))) :
    PySem.W.WalkO q loose XP YP l.row.toRowW d [] (fun f vs => PySem.call f vs) :=
  walk_G (n := 63) (k := 12) (x := "script") (sp := fun w => spLaw (K w.params)) hn (by decide) hdf ⟨rfl, by decide, by decide⟩ hY F fun _ _ a ns hl hS => ⟨a, ns, rfl, hS, hl, fun _ => rfl⟩
end Lk

set_option Elab.async false
open PySem PySem.W PyProof.Rows in
set_option maxRecDepth 100000 in
set_option maxHeartbeats 0 in
theorem PySem.Challenge.cw_lateslips_k46_whole_faces_holds : PySem.Challenge.rw_lateslips_k46_whole_faces.Holds := by
  w_on; o_law; k_head; (case hw => w_witness2)
  k_fill
  refine Lk.walk (l := PySem.Challenge.rw_lateslips_k46_whole_faces) rfl rfl (fun w h Y => PySem.W.kIn_of Y) ?F
  case F =>
    intro w mg fa h KX G hmg
    refine' Lk.all_mk KX G hmg (Lk.mk_is_integer KX G ?a_is_integer ?l_is_integer ?c_is_integer ?k_is_integer) (Lk.mk_is_number KX G ?a_is_number ?l_is_number ?c_is_number ?k_is_number) (Lk.mk_is_below KX G ?a_is_below ?l_is_below ?c_is_below ?k_is_below) (Lk.mk_is_sequence KX G ?a_is_sequence ?l_is_sequence ?c_is_sequence ?k_is_sequence) (Lk.mk_are_below KX G ?a_are_below ?l_are_below ?c_are_below ?k_are_below) (Lk.mk_is_tuple_below KX G ?a_is_tuple_below ?l_is_tuple_below ?c_is_tuple_below ?k_is_tuple_below) (Lk.mk_is_entry KX G ?a_is_entry ?l_is_entry ?c_is_entry ?k_is_entry) (Lk.mk_is_state KX G ?a_is_state ?l_is_state ?c_is_state ?k_is_state) (Lk.mk_is_state_tuple KX G ?a_is_state_tuple ?l_is_state_tuple ?c_is_state_tuple ?k_is_state_tuple) (Lk.mk_resting KX G ?a_resting ?l_resting ?c_resting ?k_resting) (Lk.mk_least_states KX G ?a_least_states ?l_least_states ?c_least_states ?k_least_states) (Lk.mk_machine_of_classes KX G ?a_machine_of_classes ?l_machine_of_classes ?c_machine_of_classes ?k_machine_of_classes) (Lk.mk_kernel_of KX G ?a_kernel_of ?l_kernel_of ?c_kernel_of ?k_kernel_of) (Lk.mk_is_division KX G ?a_is_division ?l_is_division ?c_is_division ?k_is_division) (Lk.mk_is_face KX G ?a_is_face ?l_is_face ?c_is_face ?k_is_face) (Lk.mk_face_machine KX G ?a_face_machine ?l_face_machine ?c_face_machine ?k_face_machine) (Lk.mk_refuse_no_face KX G ?a_refuse_no_face ?l_refuse_no_face ?c_refuse_no_face ?k_refuse_no_face) (Lk.mk_closed_face KX G ?a_closed_face ?l_closed_face ?c_closed_face ?k_closed_face) (Lk.mk_is_pair KX G ?a_is_pair ?l_is_pair ?c_is_pair ?k_is_pair) (Lk.mk_wider_face KX G ?a_wider_face ?l_wider_face ?c_wider_face ?k_wider_face) (Lk.mk_common_face KX G ?a_common_face ?l_common_face ?c_common_face ?k_common_face) (Lk.mk_law_draw KX G ?a_law_draw ?l_law_draw ?c_law_draw ?k_law_draw) (Lk.mk_law_any KX G ?a_law_any ?l_law_any ?c_law_any ?k_law_any) (Lk.mk_law_of KX G ?a_law_of ?l_law_of ?c_law_of ?k_law_of) (Lk.mk_law_mixed KX G ?a_law_mixed ?l_law_mixed ?c_law_mixed ?k_law_mixed) (Lk.mk_law_columns KX G ?a_law_columns ?l_law_columns ?c_law_columns ?k_law_columns) (Lk.mk_law_column KX G ?a_law_column ?l_law_column ?c_law_column ?k_law_column) (Lk.mk_law_machine KX G ?a_law_machine ?l_law_machine ?c_law_machine ?k_law_machine) (Lk.mk_law_columns_of KX G ?a_law_columns_of ?l_law_columns_of ?c_law_columns_of ?k_law_columns_of) (Lk.mk_law_graded KX G ?a_law_graded ?l_law_graded ?c_law_graded ?k_law_graded) (Lk.mk_law_any_machine KX G ?a_law_any_machine ?l_law_any_machine ?c_law_any_machine ?k_law_any_machine) (Lk.mk_law_layered KX G ?a_law_layered ?l_law_layered ?c_law_layered ?k_law_layered) (Lk.mk_law_some_machine KX G ?a_law_some_machine ?l_law_some_machine ?c_law_some_machine ?k_law_some_machine) (Lk.mk_law_parts KX G ?a_law_parts ?l_law_parts ?c_law_parts ?k_law_parts) (Lk.mk_law_is_face KX G ?a_law_is_face ?l_law_is_face ?c_law_is_face ?k_law_is_face) (Lk.mk_law_common KX G ?a_law_common ?l_law_common ?c_law_common ?k_law_common) (Lk.mk_law_classes KX G ?a_law_classes ?l_law_classes ?c_law_classes ?k_law_classes) (Lk.mk_law_asked KX G ?a_law_asked ?l_law_asked ?c_law_asked ?k_law_asked) (Lk.mk_law_odd_face KX G ?a_law_odd_face ?l_law_odd_face ?c_law_odd_face ?k_law_odd_face)  ?a1 ?l1 ?c1 ?k1 ?aM ⟨?m_pg, ?m_hd, ?m_po, ?m_sa, ?m_n1, ?m_n2, ?m_n3, ?m_mkI, ?m_ini, ?m_fnI, ?m_kp⟩ ?l2 ?c2 ?k2 (Lk.err_mk (st := L2.inClass (Lk.top 2) 0) KX G ?e1_aC ?e1_xL ⟨?e1_sa, ?e1_ga, ?e1_gg, ?e1_nb, ?e1_a, ?e1_t, ?e1_k, ?e1_e, ?e1_tC, ?e1_h, ?e1_i, ?e1_s⟩ ?e1_l ?e1_c rfl rfl rfl) (Lk.err_mk (st := L2.inClass (Lk.top 3) 0) KX G ?e2_aC ?e2_xL ⟨?e2_sa, ?e2_ga, ?e2_gg, ?e2_nb, ?e2_a, ?e2_t, ?e2_k, ?e2_e, ?e2_tC, ?e2_h, ?e2_i, ?e2_s⟩ ?e2_l ?e2_c rfl rfl rfl) (Lk.err_mk (st := L2.inClass (Lk.top 4) 0) KX G ?e3_aC ?e3_xL ⟨?e3_sa, ?e3_ga, ?e3_gg, ?e3_nb, ?e3_a, ?e3_t, ?e3_k, ?e3_e, ?e3_tC, ?e3_h, ?e3_i, ?e3_s⟩ ?e3_l ?e3_c rfl rfl rfl) (Lk.exm_of ?ne01 ?ne02 ?ne03 ?ne04) (PySem.W.mg_none_of KX G ?z_any) (PySem.W.mg_none_of KX G ?z_str) ⟨PySem.W.mg_none_of KX G ?zt_len, PySem.W.mg_none_of KX G ?zt_abs, PySem.W.mg_none_of KX G ?zt_int, PySem.W.mg_none_of KX G ?zt_max, PySem.W.mg_none_of KX G ?zt_min, PySem.W.mg_none_of KX G ?zt_range, PySem.W.mg_none_of KX G ?zt_list, PySem.W.mg_none_of KX G ?zt_tuple, PySem.W.mg_none_of KX G ?zt_enumerate, PySem.W.mg_none_of KX G ?zt_zip, PySem.W.mg_none_of KX G ?zt_isinstance, PySem.W.mg_none_of KX G ?zt_all, PySem.W.mg_none_of KX G ?zt_bool, PySem.W.mg_none_of KX G ?zt_repr⟩
    (case a_is_integer => k_is)
    (case l_is_integer => k_is)
    (case c_is_integer => k_is)
    (case k_is_integer => k_is)
    (case a_is_number => k_is)
    (case l_is_number => k_is)
    (case c_is_number => k_is)
    (case k_is_number => k_is)
    (case a_is_below => k_is)
    (case l_is_below => k_is)
    (case c_is_below => k_is)
    (case k_is_below => k_is)
    (case a_is_sequence => k_is)
    (case l_is_sequence => k_is)
    (case c_is_sequence => k_is)
    (case k_is_sequence => k_is)
    (case a_are_below => k_is)
    (case l_are_below => k_is)
    (case c_are_below => k_is)
    (case k_are_below => k_is)
    (case a_is_tuple_below => k_is)
    (case l_is_tuple_below => k_is)
    (case c_is_tuple_below => k_is)
    (case k_is_tuple_below => k_is)
    (case a_is_entry => k_is)
    (case l_is_entry => k_is)
    (case c_is_entry => k_is)
    (case k_is_entry => k_is)
    (case a_is_state => k_is)
    (case l_is_state => k_is)
    (case c_is_state => k_is)
    (case k_is_state => k_is)
    (case a_is_state_tuple => k_is)
    (case l_is_state_tuple => k_is)
    (case c_is_state_tuple => k_is)
    (case k_is_state_tuple => k_is)
    (case a_resting => k_is)
    (case l_resting => k_is)
    (case c_resting => k_is)
    (case k_resting => k_is)
    (case a_least_states => k_is)
    (case l_least_states => k_is)
    (case c_least_states => k_is)
    (case k_least_states => k_is)
    (case a_machine_of_classes => k_is)
    (case l_machine_of_classes => k_is)
    (case c_machine_of_classes => k_is)
    (case k_machine_of_classes => k_is)
    (case a_kernel_of => k_is)
    (case l_kernel_of => k_is)
    (case c_kernel_of => k_is)
    (case k_kernel_of => k_is)
    (case a_is_division => k_is)
    (case l_is_division => k_is)
    (case c_is_division => k_is)
    (case k_is_division => k_is)
    (case a_is_face => k_is)
    (case l_is_face => k_is)
    (case c_is_face => k_is)
    (case k_is_face => k_is)
    (case a_face_machine => k_is)
    (case l_face_machine => k_is)
    (case c_face_machine => k_is)
    (case k_face_machine => k_is)
    (case a_refuse_no_face => k_is)
    (case l_refuse_no_face => k_is)
    (case c_refuse_no_face => k_is)
    (case k_refuse_no_face => k_is)
    (case a_closed_face => k_is)
    (case l_closed_face => k_is)
    (case c_closed_face => k_is)
    (case k_closed_face => k_is)
    (case a_is_pair => k_is)
    (case l_is_pair => k_is)
    (case c_is_pair => k_is)
    (case k_is_pair => k_is)
    (case a_wider_face => k_is)
    (case l_wider_face => k_is)
    (case c_wider_face => k_is)
    (case k_wider_face => k_is)
    (case a_common_face => k_is)
    (case l_common_face => k_is)
    (case c_common_face => k_is)
    (case k_common_face => k_is)
    (case a_law_draw => k_is)
    (case l_law_draw => k_is)
    (case c_law_draw => k_is)
    (case k_law_draw => k_is)
    (case a_law_any => k_is)
    (case l_law_any => k_is)
    (case c_law_any => k_is)
    (case k_law_any => k_is)
    (case a_law_of => k_is)
    (case l_law_of => k_is)
    (case c_law_of => k_is)
    (case k_law_of => k_is)
    (case a_law_mixed => k_is)
    (case l_law_mixed => k_is)
    (case c_law_mixed => k_is)
    (case k_law_mixed => k_is)
    (case a_law_columns => k_is)
    (case l_law_columns => k_is)
    (case c_law_columns => k_is)
    (case k_law_columns => k_is)
    (case a_law_column => k_is)
    (case l_law_column => k_is)
    (case c_law_column => k_is)
    (case k_law_column => k_is)
    (case a_law_machine => k_is)
    (case l_law_machine => k_is)
    (case c_law_machine => k_is)
    (case k_law_machine => k_is)
    (case a_law_columns_of => k_is)
    (case l_law_columns_of => k_is)
    (case c_law_columns_of => k_is)
    (case k_law_columns_of => k_is)
    (case a_law_graded => k_is)
    (case l_law_graded => k_is)
    (case c_law_graded => k_is)
    (case k_law_graded => k_is)
    (case a_law_any_machine => k_is)
    (case l_law_any_machine => k_is)
    (case c_law_any_machine => k_is)
    (case k_law_any_machine => k_is)
    (case a_law_layered => k_is)
    (case l_law_layered => k_is)
    (case c_law_layered => k_is)
    (case k_law_layered => k_is)
    (case a_law_some_machine => k_is)
    (case l_law_some_machine => k_is)
    (case c_law_some_machine => k_is)
    (case k_law_some_machine => k_is)
    (case a_law_parts => k_is)
    (case l_law_parts => k_is)
    (case c_law_parts => k_is)
    (case k_law_parts => k_is)
    (case a_law_is_face => k_is)
    (case l_law_is_face => k_is)
    (case c_law_is_face => k_is)
    (case k_law_is_face => k_is)
    (case a_law_common => k_is)
    (case l_law_common => k_is)
    (case c_law_common => k_is)
    (case k_law_common => k_is)
    (case a_law_classes => k_is)
    (case l_law_classes => k_is)
    (case c_law_classes => k_is)
    (case k_law_classes => k_is)
    (case a_law_asked => k_is)
    (case l_law_asked => k_is)
    (case c_law_asked => k_is)
    (case k_law_asked => k_is)
    (case a_law_odd_face => k_is)
    (case l_law_odd_face => k_is)
    (case c_law_odd_face => k_is)
    (case k_law_odd_face => k_is)
    (case a1 => k_is)
    (case l1 => k_is)
    (case c1 => k_is)
    (case k1 => k_is)
    (case aM => k_is)
    (case m_pg => first | k_is | rfl | decide +kernel)
    (case m_hd => first | k_is | rfl | decide +kernel)
    (case m_po => first | k_is | rfl | decide +kernel)
    (case m_sa => first | k_is | rfl | decide +kernel)
    (case m_n1 => first | k_is | rfl | decide +kernel)
    (case m_n2 => first | k_is | rfl | decide +kernel)
    (case m_n3 => first | k_is | rfl | decide +kernel)
    (case m_mkI => first | k_is | rfl | decide +kernel)
    (case m_ini => first | k_is | rfl | decide +kernel)
    (case m_fnI => first | k_is | rfl | decide +kernel)
    (case m_kp => first | k_is | rfl | decide +kernel)
    (case l2 => k_is)
    (case c2 => k_is)
    (case k2 => k_is)
    (case e1_aC => k_is)
    (case e1_xL => k_is)
    (case e1_sa => first | k_is | rfl)
    (case e1_ga => first | k_is | rfl)
    (case e1_gg => first | k_is | rfl)
    (case e1_nb => first | k_is | rfl)
    (case e1_a => first | k_is | rfl)
    (case e1_t => first | k_is | rfl)
    (case e1_k => first | k_is | rfl)
    (case e1_e => first | k_is | rfl)
    (case e1_tC => first | k_is | rfl)
    (case e1_h => first | k_is | rfl)
    (case e1_i => first | k_is | rfl)
    (case e1_s => first | k_is | rfl)
    (case e1_l => k_is)
    (case e1_c => k_is)
    (case e2_aC => k_is)
    (case e2_xL => k_is)
    (case e2_sa => first | k_is | rfl)
    (case e2_ga => first | k_is | rfl)
    (case e2_gg => first | k_is | rfl)
    (case e2_nb => first | k_is | rfl)
    (case e2_a => first | k_is | rfl)
    (case e2_t => first | k_is | rfl)
    (case e2_k => first | k_is | rfl)
    (case e2_e => first | k_is | rfl)
    (case e2_tC => first | k_is | rfl)
    (case e2_h => first | k_is | rfl)
    (case e2_i => first | k_is | rfl)
    (case e2_s => first | k_is | rfl)
    (case e2_l => k_is)
    (case e2_c => k_is)
    (case e3_aC => k_is)
    (case e3_xL => k_is)
    (case e3_sa => first | k_is | rfl)
    (case e3_ga => first | k_is | rfl)
    (case e3_gg => first | k_is | rfl)
    (case e3_nb => first | k_is | rfl)
    (case e3_a => first | k_is | rfl)
    (case e3_t => first | k_is | rfl)
    (case e3_k => first | k_is | rfl)
    (case e3_e => first | k_is | rfl)
    (case e3_tC => first | k_is | rfl)
    (case e3_h => first | k_is | rfl)
    (case e3_i => first | k_is | rfl)
    (case e3_s => first | k_is | rfl)
    (case e3_l => k_is)
    (case e3_c => k_is)
    (case ne01 => k_is)
    (case ne02 => k_is)
    (case ne03 => k_is)
    (case ne04 => first | k_is | rfl)
    (case z_any => k_is)
    (case z_str => k_is)
    (case zt_len => k_is)
    (case zt_abs => k_is)
    (case zt_int => k_is)
    (case zt_max => k_is)
    (case zt_min => k_is)
    (case zt_range => k_is)
    (case zt_list => k_is)
    (case zt_tuple => k_is)
    (case zt_enumerate => k_is)
    (case zt_zip => k_is)
    (case zt_isinstance => k_is)
    (case zt_all => k_is)
    (case zt_bool => k_is)
    (case zt_repr => k_is)
