import PyProof.Rows.All
import Wide.All
import OpenK.AllK
import Wide.FinOn
import HandS.ForMost
import HandS.ForExc
import HandS.Wide
import HandS.Style
import HandS.Conv
import HandS.IsInst
import PySem.Challenge.RW_lateslips_k04_texts_of_machines
import KE.GoesMore
import PyProof.Draws
import HandS.WideBits
import PyProof.InstEq
import HandS.OwnEq
import HandS.Zip
import HandS.MakeKwOnly
import HandS.TupAny
import PyProof.StrLawsTight
import PyProof.StrLawsChain
import HandS.Text
import HandS.FStr
import KE.IntTextLaws
import KE.KIntText
import HandS.Comp
import HandS.ExcOwn
import HandS.Walk
set_option Elab.async false
set_option maxRecDepth 100000
namespace Lk
open PySem L2
def top (i : Nat) : Stmt := PySem.Challenge.pw_lateslips_k04_texts_of_machines.main.body.getD i (.Pass ⟨0, 0, 0, 0⟩)

/-! ### heaps: all but the deal stands -/
/-- what H tells stands in H', the two objects of the deal aside -/
def SB (d l : Addr) (H H' : Hp) : Prop := ∀ a o, H a = some o → a ≠ d → a ≠ l → H' a = some o
theorem SB.refl (d l : Addr) (H : Hp) : SB d l H H := fun _ _ h _ _ => h
theorem SB.trans {d l : Addr} {H H1 H2 : Hp} (x : SB d l H H1) (y : SB d l H1 H2) : SB d l H H2 := fun a o h n m => y a o (x a o h n m) n m
theorem SB.new {d l p : Addr} {H : Hp} {o : HO} (h : H p = none) : SB d l H (upd H p o) := fun a u e _ _ => by
  rw [upd_ne (ne_of_none e h)]
  exact e
theorem SB.d {d l : Addr} {H : Hp} {o : HO} : SB d l H (upd H d o) := fun a u e n _ => by
  rw [upd_ne n]
  exact e
theorem SB.l {d l : Addr} {H : Hp} {o : HO} : SB d l H (upd H l o) := fun a u e _ n => by
  rw [upd_ne n]
  exact e
/-- the deal: at d the pair of the great cells left, at l, and the blend -/
structure DealIs (H : Hp) (d l : Addr) (bs : List Int) (b : Int) : Prop where
  hd : H d = some (.lst [.ref l, .int b])
  hl : H l = some (.lst (bs.map V.int))
  pos : ∀ x ∈ bs, 0 ≤ x
  len : bs.length ≤ 48
  b0 : 0 ≤ b
  b1 : b < 2147483647
def DealAt (H : Hp) (d l : Addr) : Prop := ∃ bs b, DealIs H d l bs b
theorem DealIs.ne {H : Hp} {d l : Addr} {bs : List Int} {b : Int} (x : DealIs H d l bs b) : d ≠ l := fun e => by
  have h1 := x.hd
  have h2 := x.hl
  rw [e, h2] at h1
  have h3 := Option.some.inj h1
  injection h3 with h4
  cases bs with
  | nil => cases h4
  | cons y ys =>
    injection h4 with h5
    cases h5
theorem DealIs.new {H : Hp} {d l p : Addr} {o : HO} {bs : List Int} {b : Int} (x : DealIs H d l bs b) (h : H p = none) : DealIs (upd H p o) d l bs b :=
  ⟨by rw [upd_ne (ne_of_none x.hd h)]; exact x.hd, by rw [upd_ne (ne_of_none x.hl h)]; exact x.hl, x.pos, x.len, x.b0, x.b1⟩
theorem DealAt.new {H : Hp} {d l p : Addr} {o : HO} (x : DealAt H d l) (h : H p = none) : DealAt (upd H p o) d l := by
  obtain ⟨bs, b, y⟩ := x
  exact ⟨bs, b, y.new h⟩

/-! ### data: ints in a list -/
theorem dpAll_ints {K : PySem.W.Frag} {H : Hp} : ∀ bs : List Int, DpAll K H (bs.map V.int) (bs.map PyData.int)
  | [] => .nil
  | _ :: bs => .cons (.int _) (dpAll_ints bs)
theorem canLay_ints : ∀ bs : List Int, PyData.canLayAll0 (bs.map PyData.int) = true
  | [] => rfl
  | _ :: bs => by
    show (true && PyData.canLayAll0 (bs.map PyData.int)) = true
    rw [canLay_ints bs] <;> rfl
theorem depth_ints : ∀ bs : List Int, PyData.depthAll (bs.map PyData.int) ≤ 1
  | [] => by decide
  | z :: bs => by
    have h := depth_ints bs
    show max (PyData.depth (.int z)) (PyData.depthAll (bs.map PyData.int)) ≤ 1
    have e : PyData.depth (.int z) = 0 := rfl
    omega
theorem shaped_ints (bs : List Int) : SeqAt.shaped (.list (bs.map PyData.int)) = true := by
  have h1 : PyData.canLay0 (.list (bs.map PyData.int)) = true := canLay_ints bs
  have h2 : PyData.depth (.list (bs.map PyData.int)) = PyData.depthAll (bs.map PyData.int) + 1 := rfl
  have h3 := depth_ints bs
  unfold SeqAt.shaped
  rw [h1, Bool.true_and]
  exact decide_eq_true (by omega)
theorem eqv_nil (ds : List PyData) : PyData.eqv (.list ds) (.list []) = ds.isEmpty := by
  cases ds <;> rfl

/-! ### the facts of the top that the defs lean on -/
/-- a def of the text, at f -/
structure Df (K : PySem.W.Frag) (mg : Str → Option Value) (x : Str) (st : Stmt) (f : Addr) (fd : FuncData) (ps : List Str) : Prop where
  F : Fun K x x st f fd
  g : mg x = some (.ref f)
  b : Binds K fd ps []
structure Txt (mg : Str → Option Value) : Prop where
  len : mg "len" = none
  abs : mg "abs" = none
  int : mg "int" = none
  max : mg "max" = none
  min : mg "min" = none
  range : mg "range" = none
  list : mg "list" = none
  tuple : mg "tuple" = none
  enumerate : mg "enumerate" = none
  zip : mg "zip" = none
  isinstance : mg "isinstance" = none
  all : mg "all" = none
  bool : mg "bool" = none
  repr : mg "repr" = none
end Lk

set_option Elab.async false
set_option maxRecDepth 100000
set_option maxHeartbeats 1000000
namespace Lk
open PySem L2
abbrev s_law_any : Stmt := top 24
abbrev N_law_any : List Str := ["deal", "bound", "rest"]
abbrev P_law_any : List Str := ["deal", "bound"]
theorem sc_law_any : FnScope N_law_any P_law_any (defScope s_law_any) := ⟨rfl, rfl, rfl, by decide +kernel, rfl, by decide +kernel, by decide +kernel⟩
/-- a number below n is drawn, the deal goes on -/
def spAny : Sp := fun vs H Q _ => ∃ (d l : Addr) (n : Int), vs = [.ref d, .int n] ∧ 0 < n ∧ n < 1073741824 ∧ DealAt H d l ∧
  ∀ (H' : Hp) (r : Int), DealAt H' d l → SB d l H H' → 0 ≤ r → r < n → Q (.int r) H'
section
variable {P : Program} {w : World} {K : PySem.W.Frag} {mg : Str → Option Value} {base : Heap}
theorem last_get {bs : List Int} (h : bs ≠ []) : (bs.map V.int)[(bs.map V.int).length - 1]? = some (V.int (bs.getLast h)) := by
  rw [List.length_map, List.getElem?_map]
  have e : bs[bs.length - 1]? = some (bs.getLast h) := by
    rw [List.getLast_eq_getElem]
    exact List.getElem?_eq_getElem _
  rw [e] <;> rfl
theorem atI_last {bs : List Int} (h : bs ≠ []) : atI (bs.map V.int) (-1) = some (V.int (bs.getLast h)) := by
  have hl : 0 < bs.length := List.length_pos_iff.mpr h
  have e : ixN (bs.map V.int).length (-1) = some ((bs.map V.int).length - 1) := by
    unfold ixN
    rw [if_neg (by decide), if_pos (by rw [List.length_map]; omega)]
    have q : ((-1 : Int) + ((bs.map V.int).length : Int)).toNat = (bs.map V.int).length - 1 := by
      rw [List.length_map]
      omega
    rw [q]
  unfold atI
  rw [e]
  exact last_get h
theorem ok_any {f : Addr} {fd : FuncData} (A0 : Df K mg "_law_any" s_law_any f fd P_law_any) (T : Txt mg) : FnOk P w K mg base CX0 1 f fd P_law_any spAny := by
  refine A0.F.ok sc_law_any (fun vs H Q E h => ?_) (fun cdv A outer s H vs Q E hr h => ?_)
  · obtain ⟨d, l, n, rfl, _⟩ := h
    rfl
  · obtain ⟨d, l, n, rfl, n0, n1, D, k⟩ := h
    have hu : A.units + 3 + 64 < cLine := by have := hr.un; simp only [Around.deeper] at this; omega
    refine ⟨_, (pss_cons (ps_while PassesOwn.never (PW.pt (pw_and (pt_cmpR (op_neD hu) (pe_ix ix_list (pv 0) pe_int (fun _ _ => rfl)) (pe_lst pa_nil) (nomark _)) (pw_and1 (pt_cmpR op_eq (pe_ix ix_list (pe_ix ix_list (pv 0) pe_int (fun _ _ => rfl)) (pe_un un_neg pe_int) (fun _ _ => rfl)) pe_int (nomark _)))))
      (pss_one (ps_expr (pe_bm0 PySem.F.plainAttrs_list PySem.F.slot_list_pop PySem.F.type_list_pop mt_pop (pe_ix ix_list (pv 0) pe_int (fun _ _ => rfl))))))
    (pss_cons (ps_if (pt_cmpR (op_neD hu) (pe_ix ix_list (pv 0) pe_int (fun _ _ => rfl)) (pe_lst pa_nil) (nomark _)) (pss_cons (ps_set (i := 2) sc_law_any.nd rfl (Or.inl rfl) (pe_callTy call_int1 (by rfl) T.int (by decide +kernel) (pa_cons (pe_bm0 PySem.F.plainAttrs_list PySem.F.slot_list_pop PySem.F.type_list_pop mt_pop (pe_ix ix_list (pv 0) pe_int (fun _ _ => rfl))) pa_nil)))
      (pss_cons (ps_expr (pe_bm PySem.F.plainAttrs_list PySem.F.slot_list_append PySem.F.type_list_append mt_append (pe_ix ix_list (pv 0) pe_int (fun _ _ => rfl)) (pa_cons (pe_op op_fdivW (pv 2) (pv 1)) pa_nil)))
      (pss_one (ps_ret (pe_op op_mod (pv 2) (pv 1)))))) pss_nil)
    (pss_cons (ps_asg (pe_op op_mod (pe_callTy call_int1 (by rfl) T.int (by decide +kernel) (pa_cons (pe_op op_add (pe_op op_mul (pe_ix ix_list (pv 0) pe_int (fun _ _ => rfl)) pe_int) pe_int) pa_nil)) pe_int) (pg_sub (pv 0) pe_int set_list))
    (pss_one (ps_ret (pe_op op_mod (pe_callTy call_int1 (by rfl) T.int (by decide +kernel) (pa_cons (pe_op op_fdiv (pe_ix ix_list (pv 0) pe_int (fun _ _ => rfl)) pe_int) pa_nil)) (pv 1))))))), ?_⟩
    obtain ⟨bs0, b0, D0⟩ := D
    refine ⟨fun m σ H1 => σ = [some (.ref d), some (.int n), none] ∧ SB d l H H1 ∧ ∃ bs b, DealIs H1 d l bs b ∧ m = bs.length, ⟨_, rfl, SB.refl _ _ _, bs0, b0, D0, rfl⟩, ?_⟩
    rintro m σ H1 ⟨rfl, S1, bs, b, D1, rfl⟩
    refine ⟨_, rfl, d, _, 0, _, rfl, rfl, SqL.of D1.hd, rfl, Nat.zero_le _, fun p hp => ⟨_, _, Dp.lst (SqL.of (D1.new hp).hl) (dpAll_ints _), Dp.lst (SqL.of upd_same) .nil, shaped_ints _, by decide +kernel, _, rfl, ?_⟩⟩
    have D2 := D1.new (o := HO.lst []) hp
    have S2 : SB d l H _ := S1.trans (SB.new (o := HO.lst []) hp)
    rw [eqv_nil]
    -- behind the loop, with a deal that has great cells left or none
    have after : ∀ (H2 : Hp) (bs : List Int) (b : Int), DealIs H2 d l bs b → SB d l H H2 → (bs = [] ∨ ∃ h : bs ≠ [], bs.getLast h ≠ 0) →
        (tSeq (tIfS (tTest (tOp (rNeD K) (tOp (rIxL K) (tVar 0) (tC (.int 0))) (tLst tNil))) (tSeq (tAsg (tCB (fun xs H Q => (∃ i, xs = [.int i] ∧ Q (.int i) H) ∨ ∃ k, xs = [.bl k] ∧ Q (.int (if k then 1 else 0)) H) (tCons (tBM0 K "list" rPop (tOp (rIxL K) (tVar 0) (tC (.int 0)))) tNil)) (gName 2))
          (tSeq (tDrop (tBM K "list" rAppend (tOp (rIxL K) (tVar 0) (tC (.int 0))) (tCons (tOp (rI CDivW fun i j => .int (i / j)) (tVar 2) (tVar 1)) tNil))) (tRet (tOp (rI (fun _ j => 0 < j) fun i j => .int (i % j)) (tVar 2) (tVar 1))))) tNext)
          (tSeq (tAsg (tOp (rI (fun _ j => 0 < j) fun i j => .int (i % j)) (tCB (fun xs H Q => (∃ i, xs = [.int i] ∧ Q (.int i) H) ∨ ∃ k, xs = [.bl k] ∧ Q (.int (if k then 1 else 0)) H) (tCons (tOp (rI0 fun i j => .int (i + j)) (tOp (rI CMul fun i j => .int (i * j)) (tOp (rIxL K) (tVar 0) (tC (.int 1))) (tC (.int 40693))) (tC (.int 71))) tNil)) (tC (.int 2147483647))) (gSub (tVar 0) (tC (.int 1)) rSetL))
            (tRet (tOp (rI (fun _ j => 0 < j) fun i j => .int (i % j)) (tCB (fun xs H Q => (∃ i, xs = [.int i] ∧ Q (.int i) H) ∨ ∃ k, xs = [.bl k] ∧ Q (.int (if k then 1 else 0)) H) (tCons (tOp (rI CDiv fun i j => .int (i / j)) (tOp (rIxL K) (tVar 0) (tC (.int 1))) (tC (.int 64))) tNil)) (tVar 1)))))
          { nx := fun _ H' => Q .non H', rt := Q } [some (.ref d), some (.int n), none] H2 := by
      intro H2 bs b D1 S1 hb
      refine ⟨_, rfl, d, _, 0, _, rfl, rfl, SqL.of D1.hd, rfl, Nat.zero_le _, fun p hp => ⟨_, _, Dp.lst (SqL.of (D1.new hp).hl) (dpAll_ints _), Dp.lst (SqL.of upd_same) .nil, shaped_ints _, by decide +kernel, _, rfl, ?_⟩⟩
      have D2 := D1.new (o := HO.lst []) hp
      have S2 : SB d l H _ := S1.trans (SB.new (o := HO.lst []) hp)
      rw [eqv_nil]
      cases bs with
      | nil =>
        refine iteF ?_
        have m0 : (0 : Int) ≤ (b * 40693 + 71) % 2147483647 := Int.emod_nonneg _ (by decide)
        have m1 : (b * 40693 + 71) % 2147483647 < 2147483647 := Int.emod_lt_of_pos _ (by decide)
        refine ⟨_, rfl, d, _, 1, _, rfl, rfl, SqL.of D2.hd, rfl, _, _, rfl, rfl, .inr ⟨by decide, by decide⟩, _, _, rfl, rfl, .inl ⟨_, rfl, _, _, rfl, rfl, (by show (0 : Int) < 2147483647; decide), ?_⟩⟩
        refine ⟨_, rfl, d, _, 1, 1, rfl, rfl, D2.hd, rfl, ?_⟩
        refine ⟨_, rfl, d, _, 1, _, rfl, rfl, SqL.of upd_same, rfl, _, _, rfl, rfl, ⟨by decide, by decide⟩, .inl ⟨_, rfl, _, rfl, _, _, rfl, rfl, n0, ?_⟩⟩
        refine k _ _ ⟨[], _, ⟨upd_same, ?_, D2.pos, D2.len, m0, m1⟩⟩ (S2.trans SB.d) (Int.emod_nonneg _ (by omega)) (Int.emod_lt_of_pos _ n0)
        rw [upd_ne D2.ne.symm]
        exact D2.hl
      | cons x xs =>
        refine iteT ?_
        have h0 : (0 : Int) ≤ (x :: xs).getLast (List.cons_ne_nil x xs) := D2.pos _ (List.getLast_mem _)
        refine ⟨_, rfl, d, _, 0, _, rfl, rfl, SqL.of D2.hd, rfl, .inl ⟨rfl, _, SqL.of D2.hl⟩, l, _, _, rfl, rfl, D2.hl, last_get (List.cons_ne_nil x xs), .inl ⟨_, rfl, ?_⟩⟩
        have hd3 : upd (upd H2 p (HO.lst [])) l (HO.lst ((x :: xs).map V.int).dropLast) d = some (.lst [.ref l, .int b]) := by
          rw [upd_ne D2.ne]
          exact D2.hd
        refine ⟨_, rfl, d, _, 0, _, rfl, rfl, SqL.of hd3, rfl, .inl ⟨rfl, _, SqL.of upd_same⟩, _, rfl, _, rfl, _, _, rfl, rfl, wide_div n0 (b := 30) (by omega) (by decide) (by decide), l, _, _, rfl, rfl, upd_same, ?_, ?_⟩
        · have := D2.len
          rw [List.length_dropLast, List.length_map]
          exact Nat.lt_of_le_of_lt (by omega : _ ≤ 48) (by decide)
        · refine ⟨_, rfl, _, rfl, _, _, rfl, rfl, n0, ?_⟩
          refine k _ _ ⟨(x :: xs).dropLast ++ [(x :: xs).getLast (List.cons_ne_nil x xs) / n], b, ⟨?_, ?_, ?_, ?_, D2.b0, D2.b1⟩⟩ ((S2.trans SB.l).trans SB.l) (Int.emod_nonneg _ (by omega)) (Int.emod_lt_of_pos _ n0)
          · rw [upd_ne D2.ne]
            exact hd3
          · rw [upd_same, List.map_append, List.map_dropLast]
            rfl
          · intro y hy
            rcases List.mem_append.mp hy with h | h
            · exact D2.pos y (List.dropLast_subset _ h)
            · rw [List.mem_singleton.mp h]
              exact Int.ediv_nonneg h0 (by omega)
          · have := D2.len
            rw [List.length_append, List.length_dropLast]
            simp only [List.length_cons, List.length_nil] at this ⊢
            omega
    cases bs with
    | nil => exact iteF (after _ [] b D2 S2 (.inl rfl))
    | cons x xs =>
      refine iteT ?_
      refine ⟨_, rfl, d, _, 0, _, rfl, rfl, SqL.of D2.hd, rfl, _, rfl, l, _, -1, _, rfl, rfl, SqL.of D2.hl, atI_last (List.cons_ne_nil x xs), rfl, _, rfl, ?_⟩
      refine ite2 (fun h => ?_) (fun h => ?_)
      · refine ⟨fun σ' H' => ∃ m', m' < (x :: xs).length ∧ (σ' = [some (.ref d), some (.int n), none] ∧ SB d l H H' ∧ ∃ bs b, DealIs H' d l bs b ∧ m' = bs.length), fun _ _ h => h, ?_⟩
        refine ⟨_, rfl, d, _, 0, _, rfl, rfl, SqL.of D2.hd, rfl, .inl ⟨rfl, _, SqL.of D2.hl⟩, l, _, _, rfl, rfl, D2.hl, last_get (List.cons_ne_nil x xs), ?_⟩
        refine ⟨(x :: xs).dropLast.length, by rw [List.length_dropLast]; simp, rfl, S2.trans SB.l, (x :: xs).dropLast, b, ⟨?_, ?_, fun y hy => D2.pos y (List.dropLast_subset _ hy), ?_, D2.b0, D2.b1⟩, rfl⟩
        · rw [upd_ne D2.ne]
          exact D2.hd
        · rw [upd_same, List.map_dropLast]
        · have := D2.len
          rw [List.length_dropLast]
          omega
      · refine after _ (x :: xs) b D2 S2 (.inr ⟨List.cons_ne_nil x xs, fun e => h ?_⟩)
        rw [e]
        rfl
end
end Lk

set_option Elab.async false
set_option maxRecDepth 100000
set_option maxHeartbeats 1000000
namespace Lk
open PySem L2
/-! ### what stands but at some places -/
def KP (S : Addr → Prop) (H H' : Hp) : Prop := ∀ a o, H a = some o → ¬ S a → H' a = some o
def dl (d l : Addr) : Addr → Prop := fun a => a = d ∨ a = l
theorem SB.kp {d l : Addr} {H H' : Hp} (x : SB d l H H') : KP (dl d l) H H' := fun a o h n => x a o h (fun e => n (.inl e)) fun e => n (.inr e)
theorem KP.sb {d l : Addr} {H H' : Hp} (x : KP (dl d l) H H') : SB d l H H' := fun a o h n m => x a o h fun e => e.elim n m
theorem KP.refl (S : Addr → Prop) (H : Hp) : KP S H H := fun _ _ h _ => h
theorem KP.trans {S : Addr → Prop} {H H1 H2 : Hp} (x : KP S H H1) (y : KP S H1 H2) : KP S H H2 := fun a o h n => y a o (x a o h n) n
theorem KP.new {S : Addr → Prop} {H : Hp} {p : Addr} {o : HO} (h : H p = none) : KP S H (upd H p o) := fun a u e _ => by
  rw [upd_ne (ne_of_none e h)]
  exact e
theorem KP.mut {S : Addr → Prop} {H H1 : Hp} {p : Addr} {o : HO} (x : KP S H H1) (h : H p = none) : KP S H (upd H1 p o) := fun a u e n => by
  rw [upd_ne (ne_of_none e h)]
  exact x a u e n
theorem KP.same {S : Addr → Prop} {H H1 : Hp} (x : Same H H1) : KP S H H1 := fun a o h _ => x a o h
theorem KP.free {S : Addr → Prop} {H H1 : Hp} {p : Addr} (x : KP S H H1) (n : ¬ S p) (h : H1 p = none) : H p = none := by
  cases e : H p with
  | none => rfl
  | some o =>
    rw [x p o e n] at h
    cases h
theorem KP.get {S : Addr → Prop} {H H1 : Hp} {p : Addr} {o : HO} (x : KP S H H1) (n : ¬ S p) (h : H p = some o) : H1 p = some o := x p o h n
theorem KP.weak {S S' : Addr → Prop} {H H1 : Hp} (x : KP S H H1) (h : ∀ a, S a → S' a) : KP S' H H1 := fun a o e n => x a o e fun q => n (h a q)
theorem kp_upd {S : Addr → Prop} {H : Hp} {p : Addr} {o : HO} (h : S p) : KP S H (upd H p o) := fun a u e n => by
  rw [upd_ne fun q => n (by rw [q]; exact h)]
  exact e
theorem DealIs.out {H H' : Hp} {d l : Addr} {bs : List Int} {b : Int} (x : DealIs H d l bs b) (h1 : H' d = H d) (h2 : H' l = H l) : DealIs H' d l bs b :=
  ⟨h1.trans x.hd, h2.trans x.hl, x.pos, x.len, x.b0, x.b1⟩
theorem DealAt.out {H H' : Hp} {d l : Addr} (x : DealAt H d l) (h1 : H' d = H d) (h2 : H' l = H l) : DealAt H' d l := by
  obtain ⟨bs, b, y⟩ := x
  exact ⟨bs, b, y.out h1 h2⟩
theorem DealAt.upd {H : Hp} {d l p : Addr} {o : HO} (x : DealAt H d l) (n : ¬ dl d l p) : DealAt (upd H p o) d l :=
  x.out (upd_ne fun e => n (.inl e.symm)) (upd_ne fun e => n (.inr e.symm))
theorem DealAt.free {H : Hp} {d l p : Addr} (x : DealAt H d l) (h : H p = none) : ¬ dl d l p := fun e => by
  obtain ⟨bs, b, y⟩ := x
  rcases e with e | e
  · rw [e, y.hd] at h
    cases h
  · rw [e, y.hl] at h
    cases h

/-! ### comprehensions whose turns may draw -/
theorem wipe1 (σ : St) (j : Nat) (x : Option V) : wipe ((wipe σ [j]).set j x) [j] = wipe σ [j] := by
  show (((σ.set j none).set j x).set j none) = σ.set j none
  rw [List.set_set, List.set_set]
section
variable {K : PySem.W.Frag} {j : Nat} {te : TE} {σ : St} {H1 : Hp} {D : Addr} {Qd : Hp → Prop}
/-- what a comprehension keeps: D holds what is made so far -/
def Lcp (S : Addr → Prop) (I : Hp → Prop) (f : Nat → V → Hp → Prop) (H1 : Hp) (D : Addr) (i : Nat) (H : Hp) : Prop :=
  I H ∧ KP S H1 H ∧ ∃ ys : List V, H D = some (.lst ys) ∧ ys.length = i ∧ ∀ k y, ys[k]? = some y → f k y H
theorem Lcp.step {S : Addr → Prop} {I : Hp → Prop} {f : Nat → V → Hp → Prop} {i : Nat} {H H4 : Hp} {y : V} (hD : H1 D = none) (hS : ¬ S D) (mI : ∀ H o, I H → I (upd H D o)) (mf : ∀ i y H H', KP (fun a => S a ∨ a = D) H H' → f i y H → f i y H')
    (hi : i < 1000000) (x : Lcp S I f H1 D i H) (h1 : I H4) (h2 : KP S H H4) (h3 : f i y H4) : ∃ acc, H4 D = some (.lst acc) ∧ acc.length < sizeLine ∧ Lcp S I f H1 D (i + 1) (upd H4 D (.lst (acc ++ [y]))) := by
  obtain ⟨_, k1, ys, e, hl, hf⟩ := x
  refine ⟨ys, h2.get hS e, by rw [hl]; exact Nat.lt_trans hi (by decide), mI _ _ h1, (k1.trans h2).mut hD, ys ++ [y], upd_same, by rw [List.length_append, hl]; rfl, fun k z hz => ?_⟩
  have m1 : KP (fun a => S a ∨ a = D) H4 (upd H4 D (.lst (ys ++ [y]))) := kp_upd (.inr rfl)
  by_cases hk : k < ys.length
  · rw [List.getElem?_append_left hk] at hz
    exact mf _ _ _ _ ((h2.weak fun a q => .inl q).trans m1) (hf k z hz)
  · rw [List.getElem?_append_right (by omega)] at hz
    have hk0 : k - ys.length = 0 := by
      cases q : k - ys.length with
      | zero => rfl
      | succ m => rw [q] at hz; simp at hz
    rw [hk0] at hz
    have ez : y = z := Option.some.inj hz
    rw [← ez, show k = i by omega]
    exact mf _ _ _ _ m1 h3
theorem Lcp.zero {S : Addr → Prop} {I : Hp → Prop} {f : Nat → V → Hp → Prop} (hD : H1 D = none) (mI : ∀ H o, I H → I (upd H D o)) (h : I H1) : Lcp S I f H1 D 0 (upd H1 D (.lst [])) :=
  ⟨mI _ _ h, KP.new hD, [], upd_same, rfl, fun k y e => by simp at e⟩
theorem lcR {lo : Int} {n : Nat} (S : Addr → Prop) (I : Hp → Prop) (f : Nat → V → Hp → Prop) (hD : H1 D = none) (hS : ¬ S D) (hn : n ≤ 1000000) (hI : I H1) (mI : ∀ H o, I H → I (upd H D o))
    (mf : ∀ i y H H', KP (fun a => S a ∨ a = D) H H' → f i y H → f i y H')
    (hs : ∀ i H acc, i < n → I H → KP S H1 H → H D = some (.lst acc) → ∀ Q : VK, (∀ y H4, I H4 → KP S H H4 → f i y H4 → Q y H4) → te ((wipe σ [j]).set j (some (.int (lo + i)))) H Q)
    (hd : ∀ ys H', ys.length = n → (∀ i y, ys[i]? = some y → f i y H') → H' D = some (.lst ys) → I H' → KP S H1 H' → Qd H') :
    ∃ W : Nat → Nat → Hp → Prop, (∃ m, W 0 m (upd H1 D (.lst []))) ∧ ∀ i m H, W i m H →
      ((Itr lo n).stop i H ∧ Qd H) ∨ ((Itr lo n).go i H ∧ ∃ Nx : Hp → Prop, (∀ H', Nx H' → ∃ m', m' < m ∧ W (i + 1) m' H') ∧ ∀ x H', (Itr lo n).yld i H x H' → gName j x (wipe σ [j]) H' fun σ2 H2 => wipe σ2 [j] = wipe σ [j] ∧ tYes σ2 H2 fun b H3 =>
        if b = true then te σ2 H3 fun y H4 => ∃ acc, H4 D = some (.lst acc) ∧ acc.length < sizeLine ∧ Nx (upd H4 D (.lst (acc ++ [y]))) else Nx H3) := by
  refine lc_range (Lcp S I f H1 D) (Lcp.zero hD mI hI) (fun i H hi x => ?_) (fun H x => ?_)
  · refine ⟨wipe1 _ _ _, iteT (B := Lcp S I f H1 D (i + 1) H) ?_⟩
    obtain ⟨acc, e⟩ : ∃ acc, H D = some (.lst acc) := by
      obtain ⟨_, _, ys, e, _⟩ := x
      exact ⟨ys, e⟩
    exact hs i H acc hi x.1 x.2.1 e _ fun y H4 h1 h2 h3 => x.step hD hS mI mf (by omega) h1 h2 h3
  · obtain ⟨h1, h2, ys, e, hl, hf⟩ := x
    exact hd ys H hl hf e h1 h2
theorem lcL {a : Addr} {xs : List V} (S : Addr → Prop) (I : Hp → Prop) (f : Nat → V → Hp → Prop) (hD : H1 D = none) (hS : ¬ S D) (hn : xs.length ≤ 1000000) (hI : I H1) (mI : ∀ H o, I H → I (upd H D o))
    (mf : ∀ i y H H', KP (fun a => S a ∨ a = D) H H' → f i y H → f i y H') (ha : ∀ H, KP S H1 H → SqL K H a xs)
    (hs : ∀ i x H acc, xs[i]? = some x → I H → KP S H1 H → H D = some (.lst acc) → ∀ Q : VK, (∀ y H4, I H4 → KP S H H4 → f i y H4 → Q y H4) → te ((wipe σ [j]).set j (some x)) H Q)
    (hd : ∀ ys H', ys.length = xs.length → (∀ i y, ys[i]? = some y → f i y H') → H' D = some (.lst ys) → I H' → KP S H1 H' → Qd H') :
    ∃ W : Nat → Nat → Hp → Prop, (∃ m, W 0 m (upd H1 D (.lst []))) ∧ ∀ i m H, W i m H →
      ((Itl K a).stop i H ∧ Qd H) ∨ ((Itl K a).go i H ∧ ∃ Nx : Hp → Prop, (∀ H', Nx H' → ∃ m', m' < m ∧ W (i + 1) m' H') ∧ ∀ x H', (Itl K a).yld i H x H' → gName j x (wipe σ [j]) H' fun σ2 H2 => wipe σ2 [j] = wipe σ [j] ∧ tYes σ2 H2 fun b H3 =>
        if b = true then te σ2 H3 fun y H4 => ∃ acc, H4 D = some (.lst acc) ∧ acc.length < sizeLine ∧ Nx (upd H4 D (.lst (acc ++ [y]))) else Nx H3) := by
  refine lc_list (xs := xs) (Lcp S I f H1 D) (Lcp.zero hD mI hI) (fun i H _ x => ha H x.2.1) (fun i x0 H hi x => ?_) (fun H x => ?_)
  · have hi' : i < xs.length := (List.getElem?_eq_some_iff.mp hi).1
    refine ⟨wipe1 _ _ _, iteT (B := Lcp S I f H1 D (i + 1) H) ?_⟩
    obtain ⟨acc, e⟩ : ∃ acc, H D = some (.lst acc) := by
      obtain ⟨_, _, ys, e, _⟩ := x
      exact ⟨ys, e⟩
    exact hs i x0 H acc hi x.1 x.2.1 e _ fun y H4 h1 h2 h3 => x.step hD hS mI mf (by omega) h1 h2 h3
  · obtain ⟨h1, h2, ys, e, hl, hf⟩ := x
    exact hd ys H hl hf e h1 h2
end
end Lk

set_option Elab.async false
set_option maxRecDepth 100000
set_option maxHeartbeats 1000000
namespace Lk
open PySem L2
abbrev s_law_of : Stmt := top 25
abbrev N_law_of : List Str := ["deal", "some"]
abbrev P_law_of : List Str := ["deal", "some"]
theorem sc_law_of : FnScope N_law_of P_law_of (defScope s_law_of) := ⟨rfl, rfl, rfl, by decide +kernel, rfl, by decide +kernel, by decide +kernel⟩
abbrev s_law_mixed : Stmt := top 26
abbrev N_law_mixed : List Str := ["deal", "some", "left", "found"]
abbrev P_law_mixed : List Str := ["deal", "some"]
theorem sc_law_mixed : FnScope N_law_mixed P_law_mixed (defScope s_law_mixed) := ⟨rfl, rfl, rfl, by decide +kernel, rfl, by decide +kernel, by decide +kernel⟩
/-- some item of the list -/
def spOf : Sp := fun vs H Q _ => ∃ (d l a : Addr) (xs : List V), vs = [.ref d, .ref a] ∧ H a = some (.lst xs) ∧ ¬ dl d l a ∧ 0 < xs.length ∧ xs.length ≤ 1000 ∧ DealAt H d l ∧
  ∀ (H' : Hp) (i : Nat) (v : V), DealAt H' d l → SB d l H H' → xs[i]? = some v → Q v H'
/-- the ints of a list in some order, in a new list -/
def spMixed (K : PySem.W.Frag) : Sp := fun vs H Q _ => ∃ (d l a : Addr) (ns : List Int), vs = [.ref d, .ref a] ∧ SqL K H a (ns.map V.int) ∧ ns.length ≤ 1000 ∧ DealAt H d l ∧
  ∀ (H' : Hp) (p : Addr) (ms : List Int), DealAt H' d l → SB d l H H' → H p = none → H' p = some (.lst (ms.map V.int)) → ms.Perm ns → Q (.ref p) H'
section
variable {P : Program} {w : World} {K : PySem.W.Frag} {mg : Str → Option Value} {base : Heap}
theorem atI_int {α : Type} {xs : List α} {r : Int} {v : α} (h0 : 0 ≤ r) (h : xs[r.toNat]? = some v) : atI xs r = some v := by
  obtain ⟨n, rfl⟩ := Int.eq_ofNat_of_zero_le h0
  exact atI_nat h
theorem eraseIdx_map {α β : Type} (g : α → β) : ∀ (xs : List α) (i : Nat), (xs.map g).eraseIdx i = (xs.eraseIdx i).map g
  | [], _ => rfl
  | _ :: _, 0 => rfl
  | _ :: xs, i + 1 => congrArg (_ :: ·) (eraseIdx_map g xs i)
theorem perm_erase {α : Type} : ∀ {xs : List α} {i : Nat} (h : i < xs.length), ([xs[i]] ++ xs.eraseIdx i).Perm xs
  | [], _, h => absurd h (Nat.not_lt_zero _)
  | x :: xs, 0, _ => List.Perm.refl _
  | x :: xs, i + 1, h => by
    have h' : i < xs.length := Nat.lt_of_succ_lt_succ h
    have ih := perm_erase (xs := xs) (i := i) h'
    show ([xs[i]] ++ (x :: xs.eraseIdx i)).Perm (x :: xs)
    exact (List.Perm.swap x xs[i] (xs.eraseIdx i)).trans (ih.cons x)
theorem ok_of {f fa : Addr} {fd fda : FuncData} (A0 : Df K mg "_law_of" s_law_of f fd P_law_of) (d_law_any : Df K mg "_law_any" s_law_any fa fda P_law_any) (T : Txt mg) : FnOk P w K mg base CX0 2 f fd P_law_of spOf := by
  have G_law_any : FnOk P w K mg base CX0 1 fa fda P_law_any spAny := ok_any d_law_any T
  refine A0.F.ok sc_law_of (fun vs H Q E h => ?_) (fun cdv A outer s H vs Q E hr h => ?_)
  · obtain ⟨d, l, a, xs, rfl, _⟩ := h
    rfl
  · obtain ⟨d, l, a, xs, rfl, hx, na, h0, h1, D, k⟩ := h
    refine ⟨_, (pss_one (ps_ret (pe_ix ix_list (pv 1) (pe_call G_law_any (hr.mono (by decide)) rfl d_law_any.g d_law_any.F.kp d_law_any.b .nil pass0 (pa_cons (pv 0) (pa_cons (pe_callB call_len_seq (by rfl) T.len PySem.boot_len (pa_cons (pv 1) pa_nil)) pa_nil))) (fun _ _ => rfl)))), ?_⟩
    refine ⟨_, rfl, _, rfl, _, rfl, a, xs, rfl, .inl (SqL.of hx), d, l, _, rfl, by omega, by omega, D, fun H' r D' S' r0 r1 => ?_⟩
    have hx' : H' a = some (.lst xs) := S'.kp.get na hx
    have hi : r.toNat < xs.length := by omega
    refine ⟨a, xs, r, xs[r.toNat], rfl, rfl, SqL.of hx', ?_, ?_⟩
    · exact atI_int r0 (List.getElem?_eq_getElem hi)
    · exact k H' r.toNat _ D' S' (List.getElem?_eq_getElem hi)
theorem ok_mixed {f fa : Addr} {fd fda : FuncData} (A0 : Df K mg "_law_mixed" s_law_mixed f fd P_law_mixed) (d_law_any : Df K mg "_law_any" s_law_any fa fda P_law_any) (T : Txt mg) : FnOk P w K mg base CX0 2 f fd P_law_mixed (spMixed K) := by
  have G_law_any : FnOk P w K mg base CX0 1 fa fda P_law_any spAny := ok_any d_law_any T
  refine A0.F.ok sc_law_mixed (fun vs H Q E h => ?_) (fun cdv A outer s H vs Q E hr h => ?_)
  · obtain ⟨d, l, a, xs, rfl, _⟩ := h
    rfl
  · obtain ⟨d, l, a, ns, rfl, hx, h1, D, k⟩ := h
    have hu : A.units + 3 + 64 < cLine := by have := hr.un; simp only [Around.deeper] at this; omega
    refine ⟨_, (pss_cons (ps_par (i := 2) (j := 3) rfl sc_law_mixed.nd rfl rfl (by decide) rfl rfl (pa_cons (pe_callTy call_list_of (by rfl) T.list (by decide +kernel) (pa_cons (pv 1) pa_nil)) (pa_cons (pe_lst pa_nil) pa_nil)) rfl)
    (pss_cons (ps_while PassesOwn.never (pt_cmpR (op_neD hu) (pv 2) (pe_lst pa_nil) (nomark _))
      (pss_one (ps_expr (pe_bm PySem.F.plainAttrs_list PySem.F.slot_list_append PySem.F.type_list_append mt_append (pv 3) (pa_cons (pe_bm PySem.F.plainAttrs_list PySem.F.slot_list_pop PySem.F.type_list_pop mt_popAt (pv 2) (pa_cons (pe_call G_law_any (hr.mono (by decide)) rfl d_law_any.g d_law_any.F.kp d_law_any.b .nil pass0 (pa_cons (pv 0) (pa_cons (pe_callB call_len_seq (by rfl) T.len PySem.boot_len (pa_cons (pv 2) pa_nil)) pa_nil))) pa_nil)) pa_nil)))))
    (pss_one (ps_ret (pv 3))))), ?_⟩
    refine ⟨_, rfl, a, _, rfl, .inl hx, fun q hq => ⟨Nat.zero_le _, fun r hr0 => ⟨_, _, rfl, ?_⟩⟩⟩
    have nqr : q ≠ r := fun e => by rw [← e, upd_same] at hr0; cases hr0
    have q0 : H q = none := hq
    have r0 : H r = none := by rw [upd_ne nqr.symm] at hr0; exact hr0
    refine ⟨fun m σ H1 => ∃ ls fs : List Int, σ = [some (.ref d), some (.ref a), some (.ref q), some (.ref r)] ∧ DealAt H1 d l ∧ SB d l H H1 ∧ H1 q = some (.lst (ls.map V.int)) ∧ H1 r = some (.lst (fs.map V.int)) ∧ (fs ++ ls).Perm ns ∧ m = ls.length,
      ⟨_, ns, [], rfl, ?_, ?_, ?_, ?_, List.Perm.refl _, rfl⟩, ?_⟩
    · exact (D.new hq).new hr0
    · exact ((KP.new (S := dl d l) hq).trans (KP.new hr0)).sb
    · rw [upd_ne nqr, upd_same]
    · rw [upd_same]
      rfl
    · rintro m σ H1 ⟨ls, fs, rfl, D1, S1, hq1, hr1, hp, rfl⟩
      refine ⟨_, rfl, Nat.zero_le _, fun z hz => ⟨_, _, Dp.lst (SqL.of (by rw [upd_ne (ne_of_none hq1 hz)]; exact hq1)) (dpAll_ints _), Dp.lst (SqL.of upd_same) .nil, shaped_ints _, by decide +kernel, _, rfl, ?_⟩⟩
      have D2 := D1.new (o := HO.lst []) hz
      have S2 : SB d l H _ := S1.trans (SB.new (o := HO.lst []) hz)
      have hq2 : upd H1 z (HO.lst []) q = some (.lst (ls.map V.int)) := by rw [upd_ne (ne_of_none hq1 hz)]; exact hq1
      have hr2 : upd H1 z (HO.lst []) r = some (.lst (fs.map V.int)) := by rw [upd_ne (ne_of_none hr1 hz)]; exact hr1
      rw [eqv_nil]
      have nq : ¬ dl d l q := D.free q0
      have nr : ¬ dl d l r := D.free r0
      cases ls with
      | nil =>
        refine iteF ?_
        refine ⟨_, rfl, ?_⟩
        rw [List.append_nil] at hp
        exact k _ r fs D2 S2 r0 hr2 hp
      | cons x xs =>
        refine iteT ⟨fun σ' H' => ∃ m', m' < (x :: xs).length ∧ ∃ ls fs : List Int, σ' = [some (.ref d), some (.ref a), some (.ref q), some (.ref r)] ∧ DealAt H' d l ∧ SB d l H H' ∧ H' q = some (.lst (ls.map V.int)) ∧ H' r = some (.lst (fs.map V.int)) ∧ (fs ++ ls).Perm ns ∧ m' = ls.length, fun _ _ h => h, ?_⟩
        have hlen : (x :: xs).length ≤ 1000 := by
          have := hp.length_eq
          rw [List.length_append] at this
          omega
        refine ⟨_, rfl, .inl ⟨rfl, _, SqL.of hr2⟩, _, rfl, .inl ⟨rfl, _, SqL.of hq2⟩, _, rfl, _, rfl, q, _, rfl, .inl (SqL.of hq2), d, l, _, rfl, by rw [List.length_map]; simp, by rw [List.length_map]; omega, D2, fun H3 i D3 S3 i0 i1 => ?_⟩
        rw [List.length_map] at i1
        have hi : i.toNat < (x :: xs).length := by omega
        have hq3 : H3 q = some (.lst ((x :: xs).map V.int)) := S3.kp.get nq hq2
        have hr3 : H3 r = some (.lst (fs.map V.int)) := S3.kp.get nr hr2
        refine ⟨q, _, i, i.toNat, V.int (x :: xs)[i.toNat], rfl, rfl, hq3, by omega, by omega, seqIndex_of i0 (by rw [List.length_map]; exact i1), ?_, ?_⟩
        · rw [List.getElem?_map, List.getElem?_eq_getElem hi]
          rfl
        · refine ⟨r, _, _, rfl, rfl, by rw [upd_ne nqr.symm]; exact hr3, ?_, ?_⟩
          · have := hp.length_eq
            rw [List.length_append] at this
            rw [List.length_map]
            exact Nat.lt_of_le_of_lt (by omega : _ ≤ 1000) (by decide)
          · refine ⟨((x :: xs).eraseIdx i.toNat).length, ?_, (x :: xs).eraseIdx i.toNat, fs ++ [(x :: xs)[i.toNat]], rfl, ?_, ?_, ?_, ?_, ?_, rfl⟩
            · rw [List.length_eraseIdx, if_pos hi]
              omega
            · exact (D3.upd nq).upd nr
            · exact (((S2.trans S3).kp.mut q0).mut r0).sb
            · rw [upd_ne nqr, upd_same, eraseIdx_map]
            · rw [upd_same, List.map_append]
              rfl
            · rw [List.append_assoc]
              refine (List.Perm.append_left fs ?_).trans hp
              exact perm_erase hi
end
end Lk

set_option Elab.async false
set_option maxRecDepth 100000
set_option maxHeartbeats 1000000
namespace Lk
open PySem L2
/-! ### lists of lists of ints -/
theorem collect {τ : Type} {g : τ → V} : ∀ {ys : List V} {Φ : Nat → τ → Prop}, (∀ i y, ys[i]? = some y → ∃ t, y = g t ∧ Φ i t) → ∃ ts : List τ, ys = ts.map g ∧ ∀ i t, ts[i]? = some t → Φ i t
  | [], _, _ => ⟨[], rfl, fun i t h => by simp at h⟩
  | y :: ys, Φ, h => by
    obtain ⟨t, rfl, h0⟩ := h 0 y rfl
    obtain ⟨ts, rfl, h1⟩ := collect (ys := ys) (Φ := fun i => Φ (i + 1)) fun i y e => h (i + 1) y e
    refine ⟨t :: ts, rfl, fun i u e => ?_⟩
    cases i with
    | zero =>
      have e' : t = u := Option.some.inj e
      rw [← e']
      exact h0
    | succ i => exact h1 i u e
structure GridAt (H : Hp) (p : Addr) (ts : List (Addr × List Int)) : Prop where
  top : H p = some (.lst (ts.map fun t => V.ref t.1))
  row : ∀ t ∈ ts, H t.1 = some (.lst (t.2.map V.int))
structure NewG (H : Hp) (p : Addr) (ts : List (Addr × List Int)) : Prop where
  top : H p = none
  row : ∀ t ∈ ts, H t.1 = none
theorem GridAt.kp {S : Addr → Prop} {H H' : Hp} {p : Addr} {ts : List (Addr × List Int)} (x : GridAt H p ts) (k : KP S H H') (h : ¬ S p) (hr : ∀ t ∈ ts, ¬ S t.1) : GridAt H' p ts :=
  ⟨k.get h x.top, fun t ht => k.get (hr t ht) (x.row t ht)⟩
theorem GridAt.same {H H' : Hp} {p : Addr} {ts : List (Addr × List Int)} (x : GridAt H p ts) (k : Same H H') : GridAt H' p ts := ⟨k _ _ x.top, fun t ht => k _ _ (x.row t ht)⟩
theorem KP.toSame {H H' : Hp} (x : KP (fun _ => False) H H') : Same H H' := fun a o h => x a o h id
theorem mem_of_get {α : Type} {xs : List α} {i : Nat} {x : α} (h : xs[i]? = some x) : x ∈ xs := List.mem_of_getElem? h
abbrev s_law_columns : Stmt := top 27
abbrev N_law_columns : List Str := ["columns", "column", "state"]
abbrev P_law_columns : List Str := ["columns"]
theorem sc_law_columns : FnScope N_law_columns P_law_columns (defScope s_law_columns) := ⟨rfl, rfl, rfl, by decide +kernel, rfl, by decide +kernel, by decide +kernel⟩
/-- columns turned into rows: of each row the length, and where its ints come from -/
def spColumns : Sp := fun vs H Q _ => ∃ (a : Addr) (ts : List (Addr × List Int)) (n : Nat), vs = [.ref a] ∧ GridAt H a ts ∧ 0 < ts.length ∧ ts.length ≤ 1000 ∧ n ≤ 1000 ∧ (∀ t ∈ ts, t.2.length = n) ∧
  ∀ (H' : Hp) (p : Addr) (us : List (Addr × List Int)), Same H H' → NewG H p us → GridAt H' p us → us.length = n → (∀ u ∈ us, u.2.length = ts.length ∧ ∀ z ∈ u.2, ∃ t ∈ ts, z ∈ t.2) → Q (.ref p) H'
section
variable {P : Program} {w : World} {K : PySem.W.Frag} {mg : Str → Option Value} {base : Heap}
theorem ok_columns {f : Addr} {fd : FuncData} (A0 : Df K mg "_law_columns" s_law_columns f fd P_law_columns) (T : Txt mg) : FnOk P w K mg base CX0 1 f fd P_law_columns spColumns := by
  refine A0.F.ok sc_law_columns (fun vs H Q E h => ?_) (fun cdv A outer s H vs Q E hr h => ?_)
  · obtain ⟨a, ts, n, rfl, _⟩ := h
    rfl
  · obtain ⟨a, ts, n, rfl, G, t0, t1, n1, hn, k⟩ := h
    refine ⟨_, (pss_one (ps_ret (pe_lc (own := [("state", 2)]) (g := gName 2) (tt := tYes) (te := tLc (iList K (tVar 0)) (gName 1) tYes (tOp (rIxL K) (tVar 1) (tVar 2)) [1]) rfl sc_law_columns.nd (pi_range1 rfl T.range (pa_cons (pe_callB call_len_seq (by rfl) T.len PySem.boot_len (pa_cons (pe_ix ix_list (pv 0) pe_int (fun _ _ => rfl)) pa_nil)) pa_nil)) (blkOk_by (N := N_law_columns) (sc := defScope s_law_columns) (by decide +kernel)) (fun _ _ _ _ _ => (pg_name (i := 2) sc_law_columns.nd rfl (Or.inr rfl))) (fun _ _ _ _ _ => pts_nil)
      (fun _ _ _ _ _ => (pe_lc (own := [("column", 1)]) (wi := iList K (tVar 0)) (g := gName 1) (tt := tYes) (te := tOp (rIxL K) (tVar 1) (tVar 2)) rfl sc_law_columns.nd (pi_list (pv 0)) (blkOk_by (N := N_law_columns) (sc := { kind := .function, names := [(".0", .local), ("state", .cell), ("columns", .cell)], isGenerator := false, isCoroutine := false }) (by decide +kernel)) (fun _ _ _ _ _ => (pg_name (i := 1) sc_law_columns.nd rfl (Or.inl rfl))) (fun _ _ _ _ _ => pts_nil) (fun _ _ _ _ _ => (pe_ix ix_list (pv 1) (pv 2) (fun _ _ => rfl)))))))), ?_⟩
    obtain ⟨u0, us, rfl⟩ : ∃ u0 us, ts = u0 :: us := by
      cases ts with
      | nil => simp at t0
      | cons u0 us => exact ⟨u0, us, rfl⟩
    have h00 := hn u0 List.mem_cons_self
    refine ⟨_, rfl, a, _, 0, V.ref u0.1, rfl, rfl, SqL.of G.top, atI_int (by decide) rfl, u0.1, _, rfl, .inl (SqL.of (G.row u0 List.mem_cons_self)), _, rfl, by omega, by rw [List.length_map]; omega, fun D hD => ?_⟩
    rw [List.length_map, h00]
    refine lcR (fun _ => False) (fun _ => True) (fun i y H' => ∃ t : Addr × List Int, y = V.ref t.1 ∧ H t.1 = none ∧ t.1 ≠ D ∧ H' t.1 = some (.lst (t.2.map V.int)) ∧ t.2.length = (u0 :: us).length ∧ ∀ z ∈ t.2, ∃ q ∈ (u0 :: us), z ∈ q.2)
      hD id (by simp; omega) trivial (fun _ _ _ => trivial) (fun i y H1 H2 kp ⟨t, e, h1, h2, h3, h4⟩ => ⟨t, e, h1, h2, kp.get (fun q => q.elim id h2) h3, h4⟩) (fun i H1 acc hi _ k1 hD1 Q1 kQ => ?_) (fun ys H' hl hf hD' _ kp => ?_)
    · simp at hi
      have G1 : GridAt H1 a (u0 :: us) := G.same k1.toSame
      refine ⟨_, rfl, a, rfl, ⟨_, SqL.of G1.top⟩, fun D2 hD2 => ?_⟩
      refine lcL (xs := (u0 :: us).map fun t => V.ref t.1) (fun _ => False) (fun _ => True) (fun i y _ => ∃ z : Int, y = V.int z ∧ ∃ q ∈ (u0 :: us), z ∈ q.2) hD2 id (by rw [List.length_map]; omega) trivial (fun _ _ _ => trivial) (fun _ _ _ _ _ x => x) (fun H2 kp => SqL.of (kp.get id G1.top))
        (fun j x H2 acc2 hj _ k2 _ Q2 kQ2 => ?_) (fun ys2 H3 hl2 hf2 hD3 _ kp3 => ?_)
      · rw [List.getElem?_map] at hj
        obtain ⟨t, ht, rfl⟩ : ∃ t, (u0 :: us)[j]? = some t ∧ V.ref t.1 = x := by
          cases e : (u0 :: us)[j]? with
          | none => rw [e] at hj; cases hj
          | some t => rw [e] at hj; exact ⟨t, rfl, Option.some.inj hj⟩
        have hm := mem_of_get ht
        have hlt : i < t.2.length := by rw [hn t hm]; exact hi
        refine ⟨_, rfl, _, rfl, t.1, _, _, V.int t.2[i], rfl, rfl, SqL.of (k2.get id (G1.row t hm)), ?_, kQ2 _ _ trivial (KP.refl _ _) ⟨_, rfl, t, hm, List.getElem_mem hlt⟩⟩
        refine atI_int (by omega) ?_
        have e : ((0 : Int) + (i : Int)).toNat = i := by omega
        rw [e, List.getElem?_map, List.getElem?_eq_getElem hlt]
        rfl
      · obtain ⟨zs, rfl, hz⟩ := collect (g := V.int) hf2
        refine kQ _ _ trivial kp3 ⟨(D2, zs), rfl, k1.free id hD2, fun e => ?_, hD3, by rw [List.length_map] at hl2; rw [hl2, List.length_map], fun z hz' => ?_⟩
        · have e' : D2 = D := e
          rw [e', hD1] at hD2
          cases hD2
        · obtain ⟨j, hj⟩ := List.getElem?_of_mem hz'
          exact hz j z hj
    · obtain ⟨vs, rfl, hv⟩ := collect (g := fun t : Addr × List Int => V.ref t.1) hf
      have hv' : ∀ t ∈ vs, H t.1 = none ∧ t.1 ≠ D ∧ H' t.1 = some (.lst (t.2.map V.int)) ∧ t.2.length = (u0 :: us).length ∧ ∀ z ∈ t.2, ∃ q ∈ (u0 :: us), z ∈ q.2 := fun t ht => by
        obtain ⟨j, hj⟩ := List.getElem?_of_mem ht
        exact hv j t hj
      refine k H' D vs kp.toSame ⟨hD, fun t ht => (hv' t ht).1⟩ ⟨hD', fun t ht => (hv' t ht).2.2.1⟩ ?_ fun t ht => (hv' t ht).2.2.2
      rw [List.length_map] at hl
      rw [hl]
      simp
end
end Lk

set_option Elab.async false
set_option maxRecDepth 100000
set_option maxHeartbeats 1000000
namespace Lk
open PySem L2
abbrev s_law_column : Stmt := top 28
abbrev N_law_column : List Str := ["deal", "form", "many", "to", "state", "half"]
abbrev P_law_column : List Str := ["deal", "form", "many"]
theorem sc_law_column : FnScope N_law_column P_law_column (defScope s_law_column) := ⟨rfl, rfl, rfl, by decide +kernel, rfl, by decide +kernel, by decide +kernel⟩
/-- a column: as many ints as there are states, each a state -/
def spColumn : Sp := fun vs H Q _ => ∃ (d l : Addr) (form n : Int), vs = [.ref d, .int form, .int n] ∧ 0 < n ∧ n ≤ 1000 ∧ DealAt H d l ∧
  ∀ (H' : Hp) (p : Addr) (ns : List Int), DealAt H' d l → SB d l H H' → H p = none → H' p = some (.lst (ns.map V.int)) → (ns.length : Int) = n → (∀ z ∈ ns, 0 ≤ z ∧ z < n) → Q (.ref p) H'
section
variable {j : Nat} {te : TE} {σ : St} {H1 : Hp} {D : Addr} {Qd : Hp → Prop} {d l : Addr}
/-- a list of drawn ints over a range -/
theorem lcI {n : Nat} (φ : Nat → Int → Prop) (hD : H1 D = none) (hI : DealAt H1 d l) (hn : n ≤ 1000000)
    (hs : ∀ i H, i < n → DealAt H d l → SB d l H1 H → ∀ Q : VK, (∀ z H4, DealAt H4 d l → SB d l H H4 → φ i z → Q (.int z) H4) → te ((wipe σ [j]).set j (some (.int (0 + i)))) H Q)
    (hd : ∀ (ns : List Int) H', ns.length = n → (∀ (i : Nat) z, ns[i]? = some z → φ i z) → H' D = some (.lst (ns.map V.int)) → DealAt H' d l → SB d l H1 H' → Qd H') :
    ∃ W : Nat → Nat → Hp → Prop, (∃ m, W 0 m (upd H1 D (.lst []))) ∧ ∀ i m H, W i m H →
      ((Itr 0 n).stop i H ∧ Qd H) ∨ ((Itr 0 n).go i H ∧ ∃ Nx : Hp → Prop, (∀ H', Nx H' → ∃ m', m' < m ∧ W (i + 1) m' H') ∧ ∀ x H', (Itr 0 n).yld i H x H' → gName j x (wipe σ [j]) H' fun σ2 H2 => wipe σ2 [j] = wipe σ [j] ∧ tYes σ2 H2 fun b H3 =>
        if b = true then te σ2 H3 fun y H4 => ∃ acc, H4 D = some (.lst acc) ∧ acc.length < sizeLine ∧ Nx (upd H4 D (.lst (acc ++ [y]))) else Nx H3) := by
  have nD : ¬ dl d l D := hI.free hD
  refine lcR (dl d l) (fun H => DealAt H d l) (fun i y _ => ∃ z : Int, y = V.int z ∧ φ i z) hD nD hn hI (fun H o x => x.upd nD) (fun _ _ _ _ _ x => x) (fun i H acc hi x k1 _ Q kQ => ?_) (fun ys H' hl hf hD' x k1 => ?_)
  · exact hs i H hi x k1.sb Q fun z H4 x4 k4 hz => kQ _ _ x4 k4.kp ⟨z, rfl, hz⟩
  · obtain ⟨zs, rfl, hz⟩ := collect (g := V.int) hf
    exact hd zs H' (by rw [← hl, List.length_map]) hz hD' x k1.sb
end
theorem flat_rep {α : Type} (x : α) : ∀ k : Nat, (List.replicate k [x]).flatten = List.replicate k x
  | 0 => rfl
  | k + 1 => by
    show [x] ++ (List.replicate k [x]).flatten = _
    rw [flat_rep x k] <;> rfl
theorem all_of_get {ns : List Int} {φ : Int → Prop} (h : ∀ (i : Nat) z, ns[i]? = some z → φ z) : ∀ z ∈ ns, φ z := fun z hz => by
  obtain ⟨i, hi⟩ := List.getElem?_of_mem hz
  exact h i z hi
section
variable {P : Program} {w : World} {K : PySem.W.Frag} {mg : Str → Option Value} {base : Heap}
theorem ok_column {f fa fm : Addr} {fd fda fdm : FuncData} (A0 : Df K mg "_law_column" s_law_column f fd P_law_column) (d_law_any : Df K mg "_law_any" s_law_any fa fda P_law_any) (d_law_mixed : Df K mg "_law_mixed" s_law_mixed fm fdm P_law_mixed) (T : Txt mg) : FnOk P w K mg base CX0 3 f fd P_law_column spColumn := by
  have G_law_any : FnOk P w K mg base CX0 1 fa fda P_law_any spAny := ok_any d_law_any T
  have G_law_mixed : FnOk P w K mg base CX0 2 fm fdm P_law_mixed (spMixed K) := ok_mixed d_law_mixed d_law_any T
  refine A0.F.ok sc_law_column (fun vs H Q E h => ?_) (fun cdv A outer s H vs Q E hr h => ?_)
  · obtain ⟨d, l, form, n, rfl, _⟩ := h
    rfl
  · obtain ⟨d, l, form, n, rfl, n0, n1, D, k⟩ := h
    refine ⟨_, (pss_cons (ps_set (i := 3) sc_law_column.nd rfl (Or.inr rfl) (pe_call G_law_any (hr.mono (by decide)) rfl d_law_any.g d_law_any.F.kp d_law_any.b .nil pass0 (pa_cons (pv 0) (pa_cons (pv 2) pa_nil))))
    (pss_cons (ps_if (pt_cmpR op_eq (pv 1) pe_int (nomark _)) (pss_one (ps_ret (pe_lc (own := [("state", 4)]) (g := gName 4) (tt := tYes) rfl sc_law_column.nd (pi_range1 rfl T.range (pa_cons (pv 2) pa_nil)) (blkOk_by (N := N_law_column) (sc := defScope s_law_column) (by decide +kernel)) (fun _ _ _ _ _ => (pg_name (i := 4) sc_law_column.nd rfl (Or.inl rfl))) (fun _ _ _ _ _ => pts_nil) (fun _ _ _ _ _ => (pe_op op_mod (pe_callTy call_int1 (by rfl) T.int (by decide +kernel) (pa_cons (pe_op op_add (pv 4) (pv 3)) pa_nil)) (pv 2)))))) pss_nil)
    (pss_cons (ps_if (pt_cmpR op_eq (pv 1) pe_int (nomark _)) (pss_one (ps_ret (pe_op op_rep (pe_lst (pa_cons (pv 3) pa_nil)) (pv 2)))) pss_nil)
    (pss_cons (ps_if (pt_cmpR op_eq (pv 1) pe_int (nomark _)) (pss_one (ps_ret (pe_lc (own := [("state", 4)]) (g := gName 4) (tt := tYes) rfl sc_law_column.nd (pi_range1 rfl T.range (pa_cons (pv 2) pa_nil)) (blkOk_by (N := N_law_column) (sc := defScope s_law_column) (by decide +kernel)) (fun _ _ _ _ _ => (pg_name (i := 4) sc_law_column.nd rfl (Or.inl rfl))) (fun _ _ _ _ _ => pts_nil) (fun _ _ _ _ _ => (pe_ifExp (pt_cmpR op_eq (pv 4) pe_int (nomark _)) (pv 3) (pv 4)))))) pss_nil)
    (pss_cons (ps_if (pt_cmpR op_eq (pv 1) pe_int (nomark _)) (pss_one (ps_ret (pe_lc (own := [("state", 4)]) (g := gName 4) (tt := tYes) rfl sc_law_column.nd (pi_range1 rfl T.range (pa_cons (pv 2) pa_nil)) (blkOk_by (N := N_law_column) (sc := defScope s_law_column) (by decide +kernel)) (fun _ _ _ _ _ => (pg_name (i := 4) sc_law_column.nd rfl (Or.inl rfl))) (fun _ _ _ _ _ => pts_nil) (fun _ _ _ _ _ => (pe_callB (call_max2 rfl) (by rfl) T.max (by decide +kernel) (pa_cons pe_int (pa_cons (pe_callB (call_min2 rfl) (by rfl) T.min (by decide +kernel) (pa_cons (pe_op op_sub (pv 2) pe_int) (pa_cons (pe_op op_sub (pe_op op_add (pv 4) (pv 3)) pe_int) pa_nil))) pa_nil))))))) pss_nil)
    (pss_cons (ps_if (pt_cmpR op_eq (pv 1) pe_int (nomark _)) (pss_one (ps_ret (pe_call G_law_mixed (hr.mono (by decide)) rfl d_law_mixed.g d_law_mixed.F.kp d_law_mixed.b .nil pass0 (pa_cons (pv 0) (pa_cons (pe_listRg rfl (by rfl) T.list (prg_1 (by rfl) T.range (pv 2))) pa_nil))))) pss_nil)
    (pss_cons (ps_if (pt_cmpR op_eq (pv 1) pe_int (nomark _)) (pss_one (ps_ret (pe_lc (own := [("state", 4)]) (g := gName 4) (tt := tYes) rfl sc_law_column.nd (pi_range1 rfl T.range (pa_cons (pv 2) pa_nil)) (blkOk_by (N := N_law_column) (sc := defScope s_law_column) (by decide +kernel)) (fun _ _ _ _ _ => (pg_name (i := 4) sc_law_column.nd rfl (Or.inl rfl))) (fun _ _ _ _ _ => pts_nil) (fun _ _ _ _ _ => (pe_callB (call_max2 rfl) (by rfl) T.max (by decide +kernel) (pa_cons (pv 4) (pa_cons (pv 3) pa_nil))))))) pss_nil)
    (pss_cons (ps_if (pt_cmpR op_eq (pv 1) pe_int (nomark _)) (pss_cons (ps_set (i := 5) sc_law_column.nd rfl (Or.inr rfl) (pe_callB (call_max2 rfl) (by rfl) T.max (by decide +kernel) (pa_cons pe_int (pa_cons (pe_op op_fdiv (pv 2) pe_int) pa_nil))))
      (pss_one (ps_ret (pe_lc (own := [("state", 4)]) (g := gName 4) (tt := tYes) rfl sc_law_column.nd (pi_range1 rfl T.range (pa_cons (pv 2) pa_nil)) (blkOk_by (N := N_law_column) (sc := defScope s_law_column) (by decide +kernel)) (fun _ _ _ _ _ => (pg_name (i := 4) sc_law_column.nd rfl (Or.inl rfl))) (fun _ _ _ _ _ => pts_nil) (fun _ _ _ _ _ => (pe_op op_add (pe_op op_mod (pe_callTy call_int1 (by rfl) T.int (by decide +kernel) (pa_cons (pe_op op_add (pv 4) (pv 3)) pa_nil)) (pv 5)) (pe_ifExp (PW.pt (pw_and (pt_cmpR op_ge (pv 4) (pv 5) (nomark _)) (pw_and1 (pt_cmpR op_le (pe_op op_mul pe_int (pv 5)) (pv 2) (nomark _))))) (pv 5) pe_int))))))) pss_nil)
    (pss_one (ps_ret (pe_lc (own := [("state", 4)]) (g := gName 4) (tt := tYes) rfl sc_law_column.nd (pi_range1 rfl T.range (pa_cons (pv 2) pa_nil)) (blkOk_by (N := N_law_column) (sc := defScope s_law_column) (by decide +kernel)) (fun _ _ _ _ _ => (pg_name (i := 4) sc_law_column.nd rfl (Or.inl rfl))) (fun _ _ _ _ _ => pts_nil) (fun _ _ _ _ _ => (pe_call G_law_any (hr.mono (by decide)) rfl d_law_any.g d_law_any.F.kp d_law_any.b .nil pass0 (pa_cons (pv 0) (pa_cons (pv 2) pa_nil))))))))))))))), ?_⟩
    refine ⟨_, rfl, _, rfl, d, l, n, rfl, n0, by omega, D, fun H1 to D1 S1 to0 to1 => ?_⟩
    have back : ∀ (H' : Hp) (p : Addr) (ns : List Int), H1 p = none → DealAt H' d l → SB d l H1 H' → H' p = some (.lst (ns.map V.int)) → ns.length = n.toNat → (∀ z ∈ ns, 0 ≤ z ∧ z < n) → Q (.ref p) H' := fun H' p ns h1 h2 h3 h4 h5 h6 =>
      k H' p ns h2 (S1.trans h3) (S1.kp.free (D1.free h1) h1) h4 (by omega) h6
    refine ⟨_, rfl, rfl, _, rfl, ite2 (fun _ => ?_) (fun _ => ?_)⟩
    · refine ⟨_, rfl, n, rfl, by omega, by omega, fun p hp => lcI (fun _ z => 0 ≤ z ∧ z < n) hp D1 (by omega) (fun i H hi x _ Q kQ => ?_) (fun ns H' hl hz hD x k1 => back H' p ns hp x k1 hD hl (all_of_get hz))⟩
      exact ⟨_, rfl, _, rfl, _, _, rfl, rfl, .inl ⟨_, rfl, _, rfl, _, _, rfl, rfl, n0, kQ _ _ x (SB.refl _ _ _) ⟨Int.emod_nonneg _ (by omega), Int.emod_lt_of_pos _ n0⟩⟩⟩
    refine ⟨_, rfl, rfl, _, rfl, ite2 (fun _ => ?_) (fun _ => ?_)⟩
    · refine ⟨_, rfl, by show 1 ≤ sizeLine; decide, fun q hq => ⟨_, rfl, q, n, _, rfl, rfl, upd_same, by omega, by omega, Nat.le_trans (show 1 * n.toNat ≤ 1000 by omega) (by decide), fun p hp => ?_⟩⟩
      rw [flat_rep]
      have hp1 : H1 p = none := (KP.new (S := dl d l) hq).free ((D1.new hq).free hp) hp
      refine back _ p (List.replicate n.toNat to) hp1 ((D1.new hq).new hp) ((SB.new hq).trans (SB.new hp)) (by rw [upd_same, List.map_replicate]) (by simp) fun z hz => ?_
      rw [List.eq_of_mem_replicate hz]
      exact ⟨to0, to1⟩
    refine ⟨_, rfl, rfl, _, rfl, ite2 (fun _ => ?_) (fun _ => ?_)⟩
    · refine ⟨_, rfl, n, rfl, by omega, by omega, fun p hp => lcI (fun _ z => 0 ≤ z ∧ z < n) hp D1 (by omega) (fun i H hi x _ Q kQ => ?_) (fun ns H' hl hz hD x k1 => back H' p ns hp x k1 hD hl (all_of_get hz))⟩
      refine ⟨_, rfl, rfl, _, rfl, ite2 (fun _ => ?_) (fun _ => ?_)⟩
      · exact ⟨_, rfl, kQ _ _ x (SB.refl _ _ _) ⟨to0, to1⟩⟩
      · exact ⟨_, rfl, kQ _ _ x (SB.refl _ _ _) ⟨by omega, by omega⟩⟩
    refine ⟨_, rfl, rfl, _, rfl, ite2 (fun _ => ?_) (fun _ => ?_)⟩
    · refine ⟨_, rfl, n, rfl, by omega, by omega, fun p hp => lcI (fun _ z => 0 ≤ z ∧ z < n) hp D1 (by omega) (fun i H hi x _ Q kQ => ?_) (fun ns H' hl hz hD x k1 => back H' p ns hp x k1 hD hl (all_of_get hz))⟩
      refine ⟨_, rfl, _, _, rfl, rfl, _, rfl, _, rfl, _, _, rfl, rfl, _, _, rfl, rfl, _, _, rfl, _, _, rfl, ?_⟩
      refine kQ _ _ x (SB.refl _ _ _) ⟨?_, ?_⟩
      · split <;> omega
      · split
        · split <;> omega
        · omega
    refine ⟨_, rfl, rfl, _, rfl, ite2 (fun _ => ?_) (fun _ => ?_)⟩
    · refine ⟨_, rfl, _, rfl, n, rfl, RgOk.of_le (by decide) (by omega) (by decide) (by omega), fun q hq => ?_⟩
      refine ⟨d, l, q, (List.range n.toNat).map fun i => ((i : Nat) : Int), rfl, SqL.of ?_, by simp; omega, D1.new hq, fun H' p ms x k1 h1 h2 h3 => ?_⟩
      · rw [upd_same]
        unfold rgV
        rw [List.map_map]
        simp
      · refine back H' p ms (KP.free (S := dl d l) (KP.new hq) ((D1.new hq).free h1) h1) x ((SB.new hq).trans k1) h2 ?_ fun z hz => ?_
        · rw [h3.length_eq]
          simp
        · obtain ⟨i, hi, rfl⟩ := List.mem_map.mp (h3.mem_iff.mp hz)
          have := List.mem_range.mp hi
          omega
    refine ⟨_, rfl, rfl, _, rfl, ite2 (fun _ => ?_) (fun _ => ?_)⟩
    · refine ⟨_, rfl, n, rfl, by omega, by omega, fun p hp => lcI (fun _ z => 0 ≤ z ∧ z < n) hp D1 (by omega) (fun i H hi x _ Q kQ => ?_) (fun ns H' hl hz hD x k1 => back H' p ns hp x k1 hD hl (all_of_get hz))⟩
      refine ⟨_, rfl, _, rfl, _, _, rfl, kQ _ _ x (SB.refl _ _ _) ⟨?_, ?_⟩⟩
      · split <;> omega
      · split <;> omega
    refine ⟨_, rfl, rfl, _, rfl, ite2 (fun _ => ?_) (fun _ => ?_)⟩
    · refine ⟨_, rfl, _, _, rfl, rfl, ⟨by decide, by decide⟩, _, _, rfl, ?_⟩
      refine ⟨_, rfl, n, rfl, by omega, by omega, fun p hp => lcI (fun _ z => 0 ≤ z ∧ z < n) hp D1 (by omega) (fun i H hi x _ Q kQ => ?_) (fun ns H' hl hz hD x k1 => back H' p ns hp x k1 hD hl (all_of_get hz))⟩
      obtain ⟨half, eh, h0, h1, h2⟩ : ∃ half : Int, half = (if n / 2 > 1 then n / 2 else 1) ∧ 0 < half ∧ half ≤ n ∧ True := ⟨_, rfl, by split <;> omega, by split <;> omega, trivial⟩
      have r0 := Int.emod_nonneg (0 + (i : Int) + to) (show half ≠ 0 by omega)
      have r1 := Int.emod_lt_of_pos (0 + (i : Int) + to) h0
      have hb : ∀ y : Int, (y = half ∧ 2 * half ≤ n) ∨ y = 0 → 0 ≤ (0 + (i : Int) + to) % half + y ∧ (0 + (i : Int) + to) % half + y < n := fun y hy => by
        rcases hy with ⟨e, q⟩ | e <;> omega
      refine ⟨_, rfl, _, rfl, _, _, rfl, rfl, .inl ⟨_, rfl, _, rfl, _, _, rfl, rfl, ?_, ?_⟩⟩
      · rw [← eh]
        exact h0
      · refine ⟨_, rfl, _, rfl, _, _, rfl, rfl, _, rfl, ite2 (fun h3 => ?_) (fun _ => ?_)⟩
        · refine ⟨_, rfl, _, _, rfl, rfl, .inl ⟨by decide, by decide⟩, _, rfl, _, _, rfl, rfl, _, rfl, ite2 (fun h4 => ?_) (fun _ => ?_)⟩
          · have h4' := of_decide_eq_true h4
            rw [← eh] at h4'
            refine ⟨_, rfl, _, _, rfl, rfl, kQ _ _ x (SB.refl _ _ _) ?_⟩
            rw [← eh]
            exact hb half (.inl ⟨rfl, h4'⟩)
          · refine ⟨_, _, rfl, rfl, kQ _ _ x (SB.refl _ _ _) ?_⟩
            rw [← eh]
            exact hb 0 (.inr rfl)
        · refine iteF ⟨_, _, rfl, rfl, kQ _ _ x (SB.refl _ _ _) ?_⟩
          rw [← eh]
          exact hb 0 (.inr rfl)
    · refine ⟨_, rfl, n, rfl, by omega, by omega, fun p hp => lcI (fun _ z => 0 ≤ z ∧ z < n) hp D1 (by omega) (fun i H hi x _ Q kQ => ?_) (fun ns H' hl hz hD x k1 => back H' p ns hp x k1 hD hl (all_of_get hz))⟩
      exact ⟨_, rfl, _, rfl, d, l, n, rfl, n0, by omega, x, fun H4 r x4 k4 r0 r1 => kQ _ _ x4 k4 ⟨r0, r1⟩⟩
end
end Lk

set_option Elab.async false
set_option maxRecDepth 100000
set_option maxHeartbeats 1000000
namespace Lk
open PySem L2
abbrev s_law_machine : Stmt := top 29
abbrev N_law_machine : List Str := ["deal", "most", "form", "commands", "one", "other", "s", "many", "columns", "command", "kind"]
abbrev P_law_machine : List Str := ["deal", "most"]
theorem sc_law_machine : FnScope N_law_machine P_law_machine (defScope s_law_machine) := ⟨rfl, rfl, rfl, by decide +kernel, rfl, by decide +kernel, by decide +kernel⟩
/-- as a machine's steps: rows of A states each -/
structure RowsOk (A : Nat) (ts : List (Addr × List Int)) : Prop where
  pos : 0 < ts.length
  row : ∀ t ∈ ts, t.2.length = A ∧ ∀ z ∈ t.2, 0 ≤ z ∧ z < (ts.length : Int)
/-- a drawn machine: (commands, steps) -/
def spMachine : Sp := fun vs H Q _ => ∃ (d l : Addr) (most : Int), vs = [.ref d, .int most] ∧ 0 < most ∧ most ≤ 100 ∧ DealAt H d l ∧
  ∀ (H' : Hp) (t p : Addr) (A : Nat) (ts : List (Addr × List Int)), DealAt H' d l → SB d l H H' → H t = none → H' t = some (.tup [.int A, .ref p]) → NewG H p ts → GridAt H' p ts → 0 < A → A ≤ 3 → (ts.length : Int) ≤ most → RowsOk A ts → Q (.ref t) H'
theorem GridAt.snoc {H : Hp} {c p : Addr} {ts : List (Addr × List Int)} {ns : List Int} (x : GridAt H c ts) (hp : H p = some (.lst (ns.map V.int))) (n : p ≠ c) (hr : ∀ t ∈ ts, t.1 ≠ c) :
    GridAt (upd H c (.lst ((ts.map fun t => V.ref t.1) ++ [.ref p]))) c (ts ++ [(p, ns)]) := by
  refine ⟨by rw [upd_same, List.map_append] <;> rfl, fun t ht => ?_⟩
  rcases List.mem_append.mp ht with h | h
  · rw [upd_ne (hr t h)]
    exact x.row t h
  · rw [List.mem_singleton.mp h, upd_ne n]
    exact hp
theorem GridAt.new {H : Hp} {p q : Addr} {o : HO} {ts : List (Addr × List Int)} (x : GridAt H p ts) (h : H q = none) : GridAt (upd H q o) p ts :=
  ⟨by rw [upd_ne (ne_of_none x.top h)]; exact x.top, fun t ht => by rw [upd_ne (ne_of_none (x.row t ht) h)]; exact x.row t ht⟩
theorem NewG.back {S : Addr → Prop} {H H1 : Hp} {p : Addr} {ts : List (Addr × List Int)} (x : NewG H1 p ts) (k : KP S H H1) (n : ¬ S p) (hn : ∀ t ∈ ts, ¬ S t.1) : NewG H p ts :=
  ⟨k.free n x.top, fun t ht => k.free (hn t ht) (x.row t ht)⟩
/-- new behind what has a deal: new ahead of it -/
theorem NewG.deal {H H1 : Hp} {d l p : Addr} {ts : List (Addr × List Int)} (x : NewG H1 p ts) (k : SB d l H H1) (D : DealAt H1 d l) : NewG H p ts :=
  x.back k.kp (D.free x.top) fun t ht => D.free (x.row t ht)
theorem nk {H : Hp} {a p : Addr} {o u : HO} (h : H a = some o) (hp : H p = none) : upd H p u a = some o := (upd_ne (ne_of_none h hp)).trans h
theorem ff {H : Hp} {p q : Addr} {u : HO} (hp : H p = none) (hq : upd H p u q = none) : H q = none := (KP.new (S := fun _ => False) hp).free id hq
theorem two_ways {c : Prop} [Decidable c] {A X B : Prop} (hB : B) (h : c → B → X) : if c then X else (if false = true then A else B) := by
  by_cases hc : c
  · rw [if_pos hc]
    exact h hc hB
  · rw [if_neg hc]
    exact iteF hB
section
variable {K : PySem.W.Frag} {j : Nat} {te : TE} {σ : St} {H1 : Hp} {D : Addr} {Qd : Hp → Prop} {d l : Addr}
def fG (φ : Nat → List Int → Prop) (H1 : Hp) (D : Addr) (i : Nat) (y : V) (H : Hp) : Prop := ∃ t : Addr × List Int, y = V.ref t.1 ∧ H1 t.1 = none ∧ t.1 ≠ D ∧ H t.1 = some (.lst (t.2.map V.int)) ∧ φ i t.2
theorem fG_end {φ : Nat → List Int → Prop} {ys : List V} {H' : Hp} (hD : H1 D = none) (hf : ∀ i y, ys[i]? = some y → fG φ H1 D i y H') (hD' : H' D = some (.lst ys)) :
    ∃ ts : List (Addr × List Int), ts.length = ys.length ∧ NewG H1 D ts ∧ GridAt H' D ts ∧ ∀ i t, ts[i]? = some t → φ i t.2 := by
  obtain ⟨ts, rfl, ht⟩ := collect (g := fun t : Addr × List Int => V.ref t.1) hf
  have hm : ∀ t ∈ ts, H1 t.1 = none ∧ H' t.1 = some (.lst (t.2.map V.int)) := fun t h => by
    obtain ⟨i, hi⟩ := List.getElem?_of_mem h
    exact ⟨(ht i t hi).1, (ht i t hi).2.2.1⟩
  exact ⟨ts, by rw [List.length_map], ⟨hD, fun t h => (hm t h).1⟩, ⟨hD', fun t h => (hm t h).2⟩, fun i t h => (ht i t h).2.2.2⟩
/-- rows made over a range -/
theorem lcGR {n : Nat} (φ : Nat → List Int → Prop) (hD : H1 D = none) (hI : DealAt H1 d l) (hn : n ≤ 1000000)
    (hs : ∀ i H, i < n → DealAt H d l → SB d l H1 H → ∀ Q : VK, (∀ a r H4, DealAt H4 d l → SB d l H H4 → H a = none → H4 a = some (.lst (r.map V.int)) → φ i r → Q (.ref a) H4) → te ((wipe σ [j]).set j (some (.int (0 + i)))) H Q)
    (hd : ∀ ts H', ts.length = n → (∀ (i : Nat) t, ts[i]? = some t → φ i t.2) → NewG H1 D ts → GridAt H' D ts → DealAt H' d l → SB d l H1 H' → Qd H') :
    ∃ W : Nat → Nat → Hp → Prop, (∃ m, W 0 m (upd H1 D (.lst []))) ∧ ∀ i m H, W i m H →
      ((Itr 0 n).stop i H ∧ Qd H) ∨ ((Itr 0 n).go i H ∧ ∃ Nx : Hp → Prop, (∀ H', Nx H' → ∃ m', m' < m ∧ W (i + 1) m' H') ∧ ∀ x H', (Itr 0 n).yld i H x H' → gName j x (wipe σ [j]) H' fun σ2 H2 => wipe σ2 [j] = wipe σ [j] ∧ tYes σ2 H2 fun b H3 =>
        if b = true then te σ2 H3 fun y H4 => ∃ acc, H4 D = some (.lst acc) ∧ acc.length < sizeLine ∧ Nx (upd H4 D (.lst (acc ++ [y]))) else Nx H3) := by
  have nD : ¬ dl d l D := hI.free hD
  refine lcR (dl d l) (fun H => DealAt H d l) (fG φ H1 D) hD nD hn hI (fun H o x => x.upd nD) (fun i y H H' k ⟨t, e, h1, h2, h3, h4⟩ => ⟨t, e, h1, h2, k.get (fun q => q.elim (hI.free h1) h2) h3, h4⟩) (fun i H acc hi x k1 hDa Q kQ => ?_) (fun ys H' hl hf hD' x k1 => ?_)
  · refine hs i H hi x k1.sb Q fun a r H4 x4 k4 ha ha4 hr => kQ _ _ x4 k4.kp ⟨(a, r), rfl, k1.free (x.free ha) ha, fun e => ?_, ha4, hr⟩
    have e' : a = D := e
    rw [e', hDa] at ha
    cases ha
  · obtain ⟨ts, h1, h2, h3, h4⟩ := fG_end hD hf hD'
    exact hd ts H' (h1.trans hl) h4 h2 h3 x k1.sb
/-- rows made over a list -/
theorem lcGL {a : Addr} {xs : List V} (φ : Nat → List Int → Prop) (hD : H1 D = none) (hI : DealAt H1 d l) (hn : xs.length ≤ 1000000) (ha : ∀ H, SB d l H1 H → SqL K H a xs)
    (hs : ∀ i x H, xs[i]? = some x → DealAt H d l → SB d l H1 H → ∀ Q : VK, (∀ a r H4, DealAt H4 d l → SB d l H H4 → H a = none → H4 a = some (.lst (r.map V.int)) → φ i r → Q (.ref a) H4) → te ((wipe σ [j]).set j (some x)) H Q)
    (hd : ∀ ts H', ts.length = xs.length → (∀ (i : Nat) t, ts[i]? = some t → φ i t.2) → NewG H1 D ts → GridAt H' D ts → DealAt H' d l → SB d l H1 H' → Qd H') :
    ∃ W : Nat → Nat → Hp → Prop, (∃ m, W 0 m (upd H1 D (.lst []))) ∧ ∀ i m H, W i m H →
      ((Itl K a).stop i H ∧ Qd H) ∨ ((Itl K a).go i H ∧ ∃ Nx : Hp → Prop, (∀ H', Nx H' → ∃ m', m' < m ∧ W (i + 1) m' H') ∧ ∀ x H', (Itl K a).yld i H x H' → gName j x (wipe σ [j]) H' fun σ2 H2 => wipe σ2 [j] = wipe σ [j] ∧ tYes σ2 H2 fun b H3 =>
        if b = true then te σ2 H3 fun y H4 => ∃ acc, H4 D = some (.lst acc) ∧ acc.length < sizeLine ∧ Nx (upd H4 D (.lst (acc ++ [y]))) else Nx H3) := by
  have nD : ¬ dl d l D := hI.free hD
  refine lcL (xs := xs) (dl d l) (fun H => DealAt H d l) (fG φ H1 D) hD nD hn hI (fun H o x => x.upd nD) (fun i y H H' k ⟨t, e, h1, h2, h3, h4⟩ => ⟨t, e, h1, h2, k.get (fun q => q.elim (hI.free h1) h2) h3, h4⟩) (fun H k => ha H k.sb) (fun i x0 H acc hi x k1 hDa Q kQ => ?_) (fun ys H' hl hf hD' x k1 => ?_)
  · refine hs i x0 H hi x k1.sb Q fun b r H4 x4 k4 hb hb4 hr => kQ _ _ x4 k4.kp ⟨(b, r), rfl, k1.free (x.free hb) hb, fun e => ?_, hb4, hr⟩
    have e' : b = D := e
    rw [e', hDa] at hb
    cases hb
  · obtain ⟨ts, h1, h2, h3, h4⟩ := fG_end hD hf hD'
    exact hd ts H' (h1.trans hl) h4 h2 h3 x k1.sb
end
section
variable {P : Program} {w : World} {K : PySem.W.Frag} {mg : Str → Option Value} {base : Heap}
theorem ok_machine {f fa fo fc fm fk : Addr} {fd fda fdo fdc fdm fdk : FuncData} (A0 : Df K mg "_law_machine" s_law_machine f fd P_law_machine) (d_law_any : Df K mg "_law_any" s_law_any fa fda P_law_any) (d_law_of : Df K mg "_law_of" s_law_of fo fdo P_law_of) (d_law_mixed : Df K mg "_law_mixed" s_law_mixed fm fdm P_law_mixed)
    (d_law_columns : Df K mg "_law_columns" s_law_columns fc fdc P_law_columns) (d_law_column : Df K mg "_law_column" s_law_column fk fdk P_law_column) (T : Txt mg) : FnOk P w K mg base CX0 4 f fd P_law_machine spMachine := by
  have G_law_any : FnOk P w K mg base CX0 1 fa fda P_law_any spAny := ok_any d_law_any T
  have G_law_of : FnOk P w K mg base CX0 2 fo fdo P_law_of spOf := ok_of d_law_of d_law_any T
  have G_law_columns : FnOk P w K mg base CX0 1 fc fdc P_law_columns spColumns := ok_columns d_law_columns T
  have G_law_column : FnOk P w K mg base CX0 3 fk fdk P_law_column spColumn := ok_column d_law_column d_law_any d_law_mixed T
  refine A0.F.ok sc_law_machine (fun vs H Q E h => ?_) (fun cdv A outer s H vs Q E hr h => ?_)
  · obtain ⟨d, l, most, rfl, _⟩ := h
    rfl
  · obtain ⟨d, l, most, rfl, m0, m1, D, k⟩ := h
    refine ⟨_, (pss_cons (ps_par (i := 2) (j := 3) rfl sc_law_machine.nd rfl rfl (by decide) rfl rfl (pa_cons (pe_call G_law_any (hr.mono (by decide)) rfl d_law_any.g d_law_any.F.kp d_law_any.b .nil pass0 (pa_cons (pv 0) (pa_cons pe_int pa_nil))) (pa_cons (pe_call G_law_of (hr.mono (by decide)) rfl d_law_of.g d_law_of.F.kp d_law_of.b .nil pass0 (pa_cons (pv 0) (pa_cons (pe_lst (pa_cons pe_int (pa_cons pe_int (pa_cons pe_int (pa_cons pe_int (pa_cons pe_int pa_nil)))))) pa_nil))) pa_nil)) rfl)
    (pss_cons (ps_if (PW.pt (pw_and (pt_cmpR op_eq (pv 2) pe_int (nomark _)) (pw_and1 (pt_cmpR op_gt (pv 1) pe_int (nomark _))))) (pss_one (ps_ret (pe_tup (pa_cons pe_int (pa_cons (pe_lst (pa_cons (pe_lst (pa_cons pe_int (pa_cons pe_int pa_nil))) (pa_cons (pe_lst (pa_cons pe_int (pa_cons pe_int pa_nil))) (pa_cons (pe_lst (pa_cons pe_int (pa_cons pe_int pa_nil))) (pa_cons (pe_lst (pa_cons pe_int (pa_cons pe_int pa_nil))) pa_nil))))) pa_nil))))) pss_nil)
    (pss_cons (ps_if (PW.pt (pw_and (pt_cmpR op_eq (pv 2) pe_int (nomark _)) (pw_and1 (pt_cmpR op_gt (pv 1) pe_int (nomark _))))) (pss_cons (ps_asg (pe_tup (pa_cons (pe_call G_law_any (hr.mono (by decide)) rfl d_law_any.g d_law_any.F.kp d_law_any.b .nil pass0 (pa_cons (pv 0) (pa_cons pe_int pa_nil))) (pa_cons (pe_call G_law_of (hr.mono (by decide)) rfl d_law_of.g d_law_of.F.kp d_law_of.b .nil pass0 (pa_cons (pv 0) (pa_cons (pe_lst (pa_cons pe_int (pa_cons pe_int pa_nil))) pa_nil))) pa_nil))) (pg_tup rfl (pgs_cons (pg_name (i := 4) sc_law_machine.nd rfl (Or.inr rfl)) (pgs_cons (pg_name (i := 5) sc_law_machine.nd rfl (Or.inr rfl)) pgs_nil))))
      (pss_one (ps_ret (pe_tup (pa_cons pe_int (pa_cons (pe_lc (own := [("s", 6)]) (g := gName 6) (tt := tYes) rfl sc_law_machine.nd (pi_range1 rfl T.range (pa_cons pe_int pa_nil)) (blkOk_by (N := N_law_machine) (sc := defScope s_law_machine) (by decide +kernel)) (fun _ _ _ _ _ => (pg_name (i := 6) sc_law_machine.nd rfl (Or.inl rfl))) (fun _ _ _ _ _ => pts_nil) (fun _ _ _ _ _ => (pe_lst (pa_cons (pe_op op_add (pe_op op_mul pe_int (pe_op op_fdiv (pv 6) pe_int)) (pv 4)) (pa_cons (pe_ifExp (pt_cmpR op_eq (pe_op op_mod (pv 6) pe_int) pe_int (nomark _)) (pe_op op_mod (pe_callTy call_int1 (by rfl) T.int (by decide +kernel) (pa_cons (pe_op op_add (pv 6) (pv 5)) pa_nil)) pe_int) (pe_op op_mod (pe_callTy call_int1 (by rfl) T.int (by decide +kernel) (pa_cons (pe_op op_add (pv 6) pe_int) pa_nil)) pe_int)) pa_nil))))) pa_nil)))))) pss_nil)
    (pss_cons (ps_par (i := 7) (j := 8) rfl sc_law_machine.nd rfl rfl (by decide) rfl rfl (pa_cons (pe_op op_add pe_int (pe_call G_law_any (hr.mono (by decide)) rfl d_law_any.g d_law_any.F.kp d_law_any.b .nil pass0 (pa_cons (pv 0) (pa_cons (pv 1) pa_nil)))) (pa_cons (pe_lst pa_nil) pa_nil)) rfl)
    (pss_cons (ps_for PassesOwn.never rfl (pi_range1 rfl T.range (pa_cons (pv 3) pa_nil)) (pg_name (i := 9) sc_law_machine.nd rfl (Or.inl rfl))
      (pss_cons (ps_set (i := 10) sc_law_machine.nd rfl (Or.inl rfl) (pe_ifExp (pt_cmpR op_gt (pv 2) pe_int (nomark _)) (pe_call G_law_any (hr.mono (by decide)) rfl d_law_any.g d_law_any.F.kp d_law_any.b .nil pass0 (pa_cons (pv 0) (pa_cons pe_int pa_nil))) (pv 2)))
      (pss_one (ps_expr (pe_bm PySem.F.plainAttrs_list PySem.F.slot_list_append PySem.F.type_list_append mt_append (pv 8) (pa_cons (pe_call G_law_column (hr.mono (by decide)) rfl d_law_column.g d_law_column.F.kp d_law_column.b .nil pass0 (pa_cons (pv 0) (pa_cons (pv 10) (pa_cons (pv 7) pa_nil)))) pa_nil))))))
    (pss_one (ps_ret (pe_tup (pa_cons (pv 3) (pa_cons (pe_call G_law_columns (hr.mono (by decide)) rfl d_law_columns.g d_law_columns.F.kp d_law_columns.b .nil pass0 (pa_cons (pv 8) pa_nil)) pa_nil)))))))))), ?_⟩
    refine ⟨_, rfl, d, l, _, rfl, by decide, by decide, D, fun H1 form D1 S1 f0 f1 => ?_⟩
    refine ⟨_, rfl, by show 5 ≤ sizeLine; decide, fun q hq => ⟨d, l, q, _, rfl, upd_same, D1.free hq, by show 0 < 5; decide, by show 5 ≤ 1000; decide, D1.new hq, fun H2 i cm D2 S2 hi => ?_⟩⟩
    obtain ⟨A, rfl, A0, A3⟩ : ∃ A : Nat, cm = V.int A ∧ 0 < A ∧ A ≤ 3 := by
      match i, hi with
      | 0, hi => exact ⟨1, (Option.some.inj hi).symm, by decide, by decide⟩
      | 1, hi => exact ⟨2, (Option.some.inj hi).symm, by decide, by decide⟩
      | 2, hi => exact ⟨2, (Option.some.inj hi).symm, by decide, by decide⟩
      | 3, hi => exact ⟨2, (Option.some.inj hi).symm, by decide, by decide⟩
      | 4, hi => exact ⟨3, (Option.some.inj hi).symm, by decide, by decide⟩
      | n + 5, hi => cases hi
    have S02 : SB d l H H2 := (S1.trans (SB.new hq)).trans S2
    have fin : ∀ (H' : Hp) (t p : Addr) (A : Nat) (ts : List (Addr × List Int)), DealAt H' d l → SB d l H2 H' → H2 t = none → H' t = some (.tup [.int A, .ref p]) → NewG H2 p ts → GridAt H' p ts → 0 < A → A ≤ 3 → (ts.length : Int) ≤ most → RowsOk A ts → Q (.ref t) H' :=
      fun H' t p A ts x1 x2 x3 x4 x5 x6 x7 x8 x9 x10 => k H' t p A ts x1 (S02.trans x2) (S02.kp.free (D2.free x3) x3) x4 (x5.deal S02 D2) x6 x7 x8 x9 x10
    refine ⟨_, _, rfl, ?_⟩
    refine ⟨_, rfl, rfl, _, rfl, two_ways ?_ fun _ rest => ⟨_, rfl, _, _, rfl, rfl, _, rfl, ite2 (fun h3 => ?_) fun _ => rest⟩⟩
    rotate_left
    · -- (2, [[0, 1], [2, 3], [0, 1], [2, 3]])
      have h3' : (3 : Int) < most := of_decide_eq_true h3
      refine ⟨by show 2 ≤ sizeLine; decide, fun a1 e1 => ⟨by show 2 ≤ sizeLine; decide, fun a2 e2 => ⟨by show 2 ≤ sizeLine; decide, fun a3 e3 => ⟨by show 2 ≤ sizeLine; decide, fun a4 e4 => ⟨by show 4 ≤ sizeLine; decide, fun p ep => ⟨by show 2 ≤ sizeLine; decide, fun t et => ?_⟩⟩⟩⟩⟩⟩
      have n2 := ff e1 e2
      have n3 := ff e1 (ff e2 e3)
      have n4 := ff e1 (ff e2 (ff e3 e4))
      have np := ff e1 (ff e2 (ff e3 (ff e4 ep)))
      have nt := ff e1 (ff e2 (ff e3 (ff e4 (ff ep et))))
      refine fin _ t p 2 [(a1, [0, 1]), (a2, [2, 3]), (a3, [0, 1]), (a4, [2, 3])] ((((((D2.new e1).new e2).new e3).new e4).new ep).new et) ((((((SB.new e1).trans (SB.new e2)).trans (SB.new e3)).trans (SB.new e4)).trans (SB.new ep)).trans (SB.new et)) nt upd_same ⟨np, fun u hu => ?_⟩ ⟨nk upd_same et, fun u hu => ?_⟩ (by decide) (by decide) (by show (4 : Int) ≤ most; omega) ⟨by show 0 < 4; decide, fun u hu => ?_⟩
      · simp only [List.mem_cons, List.not_mem_nil, or_false] at hu
        rcases hu with rfl | rfl | rfl | rfl
        · exact e1
        · exact n2
        · exact n3
        · exact n4
      · simp only [List.mem_cons, List.not_mem_nil, or_false] at hu
        rcases hu with rfl | rfl | rfl | rfl
        · exact nk (nk (nk (nk (nk upd_same e2) e3) e4) ep) et
        · exact nk (nk (nk (nk upd_same e3) e4) ep) et
        · exact nk (nk (nk upd_same e4) ep) et
        · exact nk (nk upd_same ep) et
      · simp only [List.mem_cons, List.not_mem_nil, or_false] at hu
        rcases hu with rfl | rfl | rfl | rfl <;> exact ⟨rfl, fun z hz => by simp only [List.mem_cons, List.not_mem_nil, or_false] at hz; rcases hz with rfl | rfl <;> exact ⟨by decide, by show _ < ((4 : Nat) : Int); decide⟩⟩
    refine ⟨_, rfl, rfl, _, rfl, two_ways ?_ fun _ rest => ⟨_, rfl, _, _, rfl, rfl, _, rfl, ite2 (fun h3 => ?_) fun _ => rest⟩⟩
    rotate_left
    · have h3' : (3 : Int) < most := of_decide_eq_true h3
      refine ⟨_, rfl, d, l, _, rfl, by decide, by decide, D2, fun H3 one D3 S3 o0 o1 => ?_⟩
      refine ⟨_, rfl, by show 2 ≤ sizeLine; decide, fun q2 hq2 => ⟨d, l, q2, _, rfl, upd_same, D3.free hq2, by show 0 < 2; decide, by show 2 ≤ 1000; decide, D3.new hq2, fun H4 i2 ov D4 S4 hi2 => ?_⟩⟩
      obtain ⟨other, rfl⟩ : ∃ other : Int, ov = V.int other := by
        match i2, hi2 with
        | 0, hi => exact ⟨1, (Option.some.inj hi).symm⟩
        | 1, hi => exact ⟨3, (Option.some.inj hi).symm⟩
        | n + 2, hi => cases hi
      refine ⟨by show 2 ≤ sizeLine; decide, fun t0 ht0 => ⟨t0, _, rfl, SqT.of upd_same, rfl, _, _, rfl, _, _, rfl, rfl, ?_⟩⟩
      have D5 := D4.new (o := HO.tup [V.int one, V.int other]) ht0
      have S25 : SB d l H2 _ := ((S3.trans (SB.new hq2)).trans S4).trans (SB.new (o := HO.tup [V.int one, V.int other]) ht0)
      refine ⟨_, rfl, by decide, by decide, fun p ep => lcGR (n := 4) (fun _ r => r.length = 2 ∧ ∀ z ∈ r, 0 ≤ z ∧ z < (4 : Int)) ep D5 (by decide) (fun i H6 hi x6 _ Q6 kQ => ?_) (fun ts H' hl hz hN hG x k1 => ?_)⟩
      · have i4 : (0 : Int) + (i : Int) < 4 := by omega
        have fin6 : ∀ z1 z2 : Int, (0 ≤ z1 ∧ z1 < 4) → (0 ≤ z2 ∧ z2 < 4) → ∀ a, H6 a = none → Q6 (.ref a) (upd H6 a (.lst [.int z1, .int z2])) := fun z1 z2 b1 b2 a ha => by
          refine kQ a [z1, z2] _ (x6.new ha) (SB.new ha) ha upd_same ⟨rfl, fun z hz => ?_⟩
          simp only [List.mem_cons, List.not_mem_nil, or_false] at hz
          rcases hz with rfl | rfl
          · exact b1
          · exact b2
        refine ⟨_, rfl, _, _, rfl, rfl, ⟨by decide, by decide⟩, _, _, rfl, rfl, .inl ⟨by decide, by decide⟩, _, rfl, _, _, rfl, rfl, ?_⟩
        refine ⟨_, rfl, _, _, rfl, rfl, (by show (0 : Int) < 2; decide), rfl, _, rfl, ite2 (fun _ => ?_) (fun _ => ?_)⟩
        · exact ⟨_, rfl, _, rfl, _, _, rfl, rfl, .inl ⟨_, rfl, _, _, rfl, rfl, (by show (0 : Int) < 4; decide), by show 2 ≤ sizeLine; decide, fin6 _ _ ⟨by omega, by omega⟩ ⟨Int.emod_nonneg _ (by decide), Int.emod_lt_of_pos _ (by decide)⟩⟩⟩
        · exact ⟨_, rfl, _, _, rfl, rfl, .inl ⟨_, rfl, _, _, rfl, rfl, (by show (0 : Int) < 4; decide), by show 2 ≤ sizeLine; decide, fin6 _ _ ⟨by omega, by omega⟩ ⟨Int.emod_nonneg _ (by decide), Int.emod_lt_of_pos _ (by decide)⟩⟩⟩
      · refine ⟨by show 2 ≤ sizeLine; decide, fun t et => ?_⟩
        have nt : ¬ dl d l t := x.free et
        have D4f := D4
        refine fin _ t p 2 ts (x.new et) ((S25.trans k1).trans (SB.new et)) ?_ upd_same ?_ (hG.new et) (by decide) (by decide) (by omega) ⟨by omega, fun u hu => ?_⟩
        · exact (S25.trans k1).kp.free nt et
        · exact hN.deal S25 D5
        · obtain ⟨i, hi⟩ := List.getElem?_of_mem hu
          have := hz i u hi
          rw [hl]
          exact this
    · -- many columns
      refine ⟨_, rfl, _, rfl, d, l, _, rfl, m0, by omega, D2, fun H3 ma D3 S3 ma0 ma1 => ?_⟩
      have S23 : SB d l H2 H3 := S3
      refine ⟨_, _, rfl, rfl, ?_⟩
      refine ⟨Nat.zero_le _, fun c hc => ⟨_, _, rfl, ?_⟩⟩
      obtain ⟨many, em, q0, q1⟩ : ∃ many : Nat, (1 + ma : Int) = (many : Int) ∧ 0 < many ∧ (many : Int) ≤ most := ⟨(1 + ma).toNat, by omega, by omega, by omega⟩
      have c0 : H2 c = none := S3.kp.free (D3.free hc) hc
      refine ⟨_, rfl, (A : Int), rfl, by omega, by omega, ?_⟩
      rw [show ((A : Int)).toNat = A by omega]
      refine for_range (fun i σ H4 => ∃ (v9 v10 : Option V) (ts : List (Addr × List Int)), σ = [some (.ref d), some (.int most), some (.int form), some (.int (A : Int)), none, none, none, some (.int (1 + ma)), some (.ref c), v9, v10] ∧ DealAt H4 d l ∧ SB d l H2 H4 ∧ GridAt H4 c ts ∧ (∀ t ∈ ts, H2 t.1 = none ∧ t.1 ≠ c) ∧ ts.length = i ∧ ∀ t ∈ ts, t.2.length = many ∧ ∀ z ∈ t.2, 0 ≤ z ∧ z < (many : Int))
        ⟨none, none, [], rfl, D3.new hc, S3.trans (SB.new hc), ⟨upd_same, fun t ht => nomatch ht⟩, (fun t ht => nomatch ht), rfl, (fun t ht => nomatch ht)⟩ ?_ ?_
      · rintro i σ H4 hi ⟨v9, v10, ts, rfl, D4, S4, G4, N4, hl4, R4⟩
        have nc : ¬ dl d l c := D2.free c0
        have nts : ∀ t ∈ ts, ¬ dl d l t.1 := fun t ht => D2.free (N4 t ht).1
        have body : ∀ (H5 : Hp) (kind : Int), DealAt H5 d l → SB d l H4 H5 → (tDrop (tBM K "list" rAppend (tVar 8) (tCons (tCall spColumn [] E0 (tCons (tVar 0) (tCons (tVar 10) (tCons (tVar 7) tNil)))) tNil)))
            { nx := fun σ H4 => ∃ (v9 v10 : Option V) (ts : List (Addr × List Int)), σ = [some (.ref d), some (.int most), some (.int form), some (.int (A : Int)), none, none, none, some (.int (1 + ma)), some (.ref c), v9, v10] ∧ DealAt H4 d l ∧ SB d l H2 H4 ∧ GridAt H4 c ts ∧ (∀ t ∈ ts, H2 t.1 = none ∧ t.1 ≠ c) ∧ ts.length = i + 1 ∧ ∀ t ∈ ts, t.2.length = many ∧ ∀ z ∈ t.2, 0 ≤ z ∧ z < (many : Int),
              rt := Q } [some (.ref d), some (.int most), some (.int form), some (.int (A : Int)), none, none, none, some (.int (1 + ma)), some (.ref c), some (.int (0 + (i : Int))), some (.int kind)] H5 := by
          intro H5 kind D5 S5
          have G5 : GridAt H5 c ts := G4.kp S5.kp nc nts
          refine ⟨_, rfl, .inl ⟨rfl, _, SqL.of G5.top⟩, _, rfl, _, rfl, _, rfl, d, l, kind, 1 + ma, rfl, by omega, by omega, D5, fun H6 p ns D6 S6 hp6 hp6' hn6 hr6 => ?_⟩
          have G6 : GridAt H6 c ts := G5.kp S6.kp nc nts
          have S26 := (S4.trans S5).trans S6
          have np : H2 p = none := (S4.trans S5).kp.free (D5.free hp6) hp6
          have npc : p ≠ c := fun e => by
            rw [e, G5.top] at hp6
            cases hp6
          refine ⟨c, _, _, rfl, rfl, G6.top, ?_, _, _, ts ++ [(p, ns)], rfl, D6.upd nc, (S26.kp.mut c0).sb, G6.snoc hp6' npc fun t ht => (N4 t ht).2, fun t ht => ?_, by rw [List.length_append, hl4]; rfl, fun t ht => ?_⟩
          · rw [List.length_map]
            exact Nat.lt_of_le_of_lt (by omega : _ ≤ 1000) (by decide)
          · rcases List.mem_append.mp ht with h | h
            · exact N4 t h
            · rw [List.mem_singleton.mp h]
              exact ⟨np, npc⟩
          · rcases List.mem_append.mp ht with h | h
            · exact R4 t h
            · rw [List.mem_singleton.mp h]
              refine ⟨by show ns.length = many; omega, fun z hz => ?_⟩
              have := hr6 z hz
              omega
        refine ⟨_, rfl, _, _, rfl, rfl, _, rfl, ite2 (fun _ => ?_) (fun _ => ?_)⟩
        · exact ⟨_, rfl, d, l, _, rfl, by decide, by decide, D4, fun H5 kind D5 S5 _ _ => body H5 kind D5 S5⟩
        · exact ⟨_, rfl, body H4 form D4 (SB.refl _ _ _)⟩
      · rintro σ H4 ⟨v9, v10, ts, rfl, D4, S4, G4, N4, hl4, R4⟩
        refine ⟨_, rfl, _, rfl, c, ts, many, rfl, G4, by omega, by omega, by omega, fun t ht => (R4 t ht).1, fun H5 p us S5 N5 G5 hl5 R5 => ⟨by show 2 ≤ sizeLine; decide, fun t ht => ?_⟩⟩
        have S45 : SB d l H4 H5 := (KP.same (S := dl d l) S5).sb
        have D5 : DealAt H5 d l := by
          obtain ⟨bs, b, y⟩ := D4
          exact ⟨bs, b, S5 _ _ y.hd, S5 _ _ y.hl, y.pos, y.len, y.b0, y.b1⟩
        refine fin _ t p A us (D5.new ht) ((S4.trans S45).trans (SB.new ht)) ((S4.trans S45).kp.free (D5.free ht) ht) upd_same (N5.deal S4 D4) (G5.new ht) A0 A3 (by omega) ⟨by omega, fun u hu => ?_⟩
        have hu5 := R5 u hu
        refine ⟨by omega, fun z hz => ?_⟩
        obtain ⟨t, ht, hz'⟩ := hu5.2 z hz
        have := (R4 t ht).2 z hz'
        omega
end
end Lk

set_option Elab.async false
set_option maxRecDepth 100000
set_option maxHeartbeats 1000000
namespace Lk
open PySem L2
abbrev s_law_draw : Stmt := top 23
abbrev N_law_draw : List Str := ["script", "salt", "cells", "cell", "blend"]
abbrev P_law_draw : List Str := ["script", "salt"]
theorem sc_law_draw : FnScope N_law_draw P_law_draw (defScope s_law_draw) := ⟨rfl, rfl, rfl, by decide +kernel, rfl, by decide +kernel, by decide +kernel⟩
abbrev s_law_wide : Stmt := top 30
abbrev N_law_wide : List Str := ["deal", "most", "commands", "steps", "more", "row"]
abbrev P_law_wide : List Str := ["deal", "most"]
theorem sc_law_wide : FnScope N_law_wide P_law_wide (defScope s_law_wide) := ⟨rfl, rfl, rfl, by decide +kernel, rfl, by decide +kernel, by decide +kernel⟩
/-- a deal is made of the script -/
def spDraw (K : PySem.W.Frag) : Sp := fun vs H Q _ => ∃ (a : Addr) (ns : List Int) (salt : Int), vs = [.ref a, .int salt] ∧ SqL K H a (ns.map V.int) ∧ ns.length ≤ 63 ∧ 0 ≤ salt ∧ salt ≤ 1000 ∧
  ∀ (H' : Hp) (d l : Addr), DealAt H' d l → Same H H' → H d = none → H l = none → Q (.ref d) H'
/-- a drawn machine, with up to five commands -/
def spWide : Sp := fun vs H Q _ => ∃ (d l : Addr) (most : Int), vs = [.ref d, .int most] ∧ 0 < most ∧ most ≤ 100 ∧ DealAt H d l ∧
  ∀ (H' : Hp) (t p : Addr) (A : Nat) (ts : List (Addr × List Int)), DealAt H' d l → SB d l H H' → H t = none → H' t = some (.tup [.int A, .ref p]) → NewG H p ts → GridAt H' p ts → 0 < A → A ≤ 5 → (ts.length : Int) ≤ most → RowsOk A ts → Q (.ref t) H'
theorem cut_ints (ns : List Int) (lo hi : Option Int) : ∃ ms : List Int, cutV (ns.map V.int) lo hi = ms.map V.int ∧ ms.length ≤ ns.length := by
  refine ⟨(ns.drop (HT.sIx (ns.map V.int).length 0 lo)).take (HT.sIx (ns.map V.int).length (ns.map V.int).length hi - HT.sIx (ns.map V.int).length 0 lo), ?_, ?_⟩
  · unfold cutV
    rw [← List.map_drop, ← List.map_take]
  · rw [List.length_take, List.length_drop]
    omega
theorem cut48 (ns : List Int) : ∃ ms : List Int, cutV (ns.map V.int) none (some 48) = ms.map V.int ∧ ms.length ≤ 48 := by
  refine ⟨(ns.drop (HT.sIx (ns.map V.int).length 0 none)).take (HT.sIx (ns.map V.int).length (ns.map V.int).length (some 48) - HT.sIx (ns.map V.int).length 0 none), ?_, ?_⟩
  · unfold cutV
    rw [← List.map_drop, ← List.map_take]
  · rw [List.length_take]
    have e : HT.sIx (ns.map V.int).length (ns.map V.int).length (some 48) ≤ 48 := by
      show (if (48 : Int) < 0 then ((48 : Int) + (((ns.map V.int).length : Nat) : Int)).toNat else min (48 : Int).toNat (ns.map V.int).length) ≤ 48
      rw [if_neg (by decide)]
      exact Nat.min_le_left _ _
    omega
section
variable {P : Program} {w : World} {K : PySem.W.Frag} {mg : Str → Option Value} {base : Heap}
theorem ok_draw {f : Addr} {fd : FuncData} (A0 : Df K mg "_law_draw" s_law_draw f fd P_law_draw) (T : Txt mg) : FnOk P w K mg base CX0 1 f fd P_law_draw (spDraw K) := by
  refine A0.F.ok sc_law_draw (fun vs H Q E h => ?_) (fun cdv A outer s H vs Q E hr h => ?_)
  · obtain ⟨a, ns, salt, rfl, _⟩ := h
    rfl
  · obtain ⟨a, ns, salt, rfl, hS, hl, s0, s1, k⟩ := h
    refine ⟨_, (pss_cons (ps_setLc (i := 2) (own := [("cell", 3)]) (g := gName 3) (tt := tYes) rfl sc_law_draw.nd rfl rfl (sw_true rfl rfl rfl (by decide +kernel)) (pi_list (pe_slice sl_list (pv 0) po_none (po_some pe_int))) (blkOk_by (N := N_law_draw) (sc := defScope s_law_draw) (by decide +kernel)) (fun _ _ _ _ _ => (pg_name (i := 3) sc_law_draw.nd rfl (Or.inl rfl))) (fun _ _ _ _ _ => pts_nil) (fun _ _ _ _ _ => (pe_callB call_abs (by rfl) T.abs (by decide +kernel) (pa_cons (pe_callTy call_int1 (by rfl) T.int (by decide +kernel) (pa_cons (pv 3) pa_nil)) pa_nil))))
    (pss_cons (ps_set (i := 4) sc_law_draw.nd rfl (Or.inl rfl) (pe_op op_add pe_int (pe_op op_mul pe_int (pv 1))))
    (pss_cons (ps_for PassesOwn.never rfl (pi_list (pv 2)) (pg_name (i := 3) sc_law_draw.nd rfl (Or.inl rfl))
      (pss_one (ps_set (i := 4) sc_law_draw.nd rfl (Or.inl rfl) (pe_op op_mod (pe_callTy call_int1 (by rfl) T.int (by decide +kernel) (pa_cons (pe_op op_add (pe_op op_add (pe_op op_mul (pv 4) pe_int) (pe_op op_mod (pv 3) pe_int)) pe_int) pa_nil)) pe_int))))
    (pss_one (ps_ret (pe_lst (pa_cons (pe_revL (pe_lc (own := [("cell", 3)]) (g := gName 3) rfl sc_law_draw.nd (pi_list (pv 2)) (blkOk_by (N := N_law_draw) (sc := defScope s_law_draw) (by decide +kernel)) (fun _ _ _ _ _ => (pg_name (i := 3) sc_law_draw.nd rfl (Or.inl rfl))) (fun _ _ _ _ _ => (pts_one (pt_cmpR op_ge (pv 3) (pe_op op_pow pe_int pe_int) (nomark _)))) (fun _ _ _ _ _ => (pv 3)))) (pa_cons (pv 4) pa_nil)))))))), ?_⟩
    obtain ⟨ms, em, hm⟩ := cut48 ns
    refine ⟨_, rfl, _, rfl, a, _, rfl, hS, fun p hp => ⟨p, rfl, ⟨_, SqL.of upd_same⟩, fun D hD => ?_⟩⟩
    rw [em] at hD ⊢
    have hpD : ∀ {o}, upd (upd H p (HO.lst (ms.map V.int))) D o p = some (.lst (ms.map V.int)) := nk upd_same hD
    refine lcL (xs := ms.map V.int) (fun _ => False) (fun _ => True) (fun _ y _ => ∃ z : Int, y = V.int z ∧ 0 ≤ z) hD id (by rw [List.length_map]; omega) trivial (fun _ _ _ => trivial) (fun _ _ _ _ _ x => x) (fun H2 kp => SqL.of (kp.get id upd_same)) (fun j x H2 acc hj _ k2 _ Q2 kQ => ?_) (fun ys H2 hl2 hf hD2 _ k2 => ?_)
    · obtain ⟨z, rfl⟩ : ∃ z, x = V.int z := by
        obtain ⟨z, _, e⟩ := List.mem_map.mp (mem_of_get hj)
        exact ⟨z, e.symm⟩
      exact ⟨_, rfl, .inl ⟨_, rfl, _, rfl, kQ _ _ trivial (KP.refl _ _) ⟨_, rfl, by split <;> omega⟩⟩⟩
    obtain ⟨cs, rfl, hc⟩ := collect (g := V.int) hf
    have hcs : cs.length ≤ 48 := by
      rw [List.length_map, List.length_map] at hl2
      omega
    have c0 : ∀ z ∈ cs, 0 ≤ z := all_of_get hc
    have S2 : Same H H2 := ((KP.new (S := fun _ => False) hp).trans k2).toSame
    have nD : H D = none := ff hp hD
    refine ⟨_, rfl, _, _, rfl, rfl, .inl ⟨by decide, by decide⟩, _, _, rfl, rfl, ?_⟩
    refine ⟨_, rfl, D, rfl, ⟨_, SqL.of hD2⟩, for_list (K := K) (a := D) (xs := cs.map V.int) (fun i σ H3 => H3 = H2 ∧ ∃ (b : Int) (v : Option V), σ = [some (.ref a), some (.int salt), some (.ref D), v, some (.int b)] ∧ 0 ≤ b ∧ b < 2147483647) ⟨rfl, _, none, rfl, by omega, by omega⟩ (fun i σ H3 _ x => by rw [x.1]; exact SqL.of hD2) ?_ ?_⟩
    · rintro i x σ H3 hi ⟨rfl, b, v, rfl, b0, b1⟩
      obtain ⟨z, rfl⟩ : ∃ z, x = V.int z := by
        obtain ⟨z, _, e⟩ := List.mem_map.mp (mem_of_get hi)
        exact ⟨z, e.symm⟩
      refine ⟨_, rfl, _, _, rfl, rfl, .inr ⟨by decide, by decide⟩, _, rfl, _, _, rfl, rfl, (by show (0 : Int) < 2147483549; decide), _, _, rfl, rfl, _, _, rfl, rfl, .inl ⟨_, rfl, _, _, rfl, rfl, (by show (0 : Int) < 2147483647; decide), ?_⟩⟩
      exact ⟨rfl, _, _, rfl, Int.emod_nonneg _ (by decide), Int.emod_lt_of_pos _ (by decide)⟩
    · rintro σ H3 ⟨rfl, b, v, rfl, b0, b1⟩
      refine ⟨_, rfl, D, rfl, ⟨_, SqL.of hD2⟩, fun q hq => ?_⟩
      refine lc_list (xs := cs.map V.int) (fun i H4 => Same H3 H4 ∧ ∃ gs : List Int, H4 q = some (.lst (gs.map V.int)) ∧ gs.length ≤ i ∧ ∀ z ∈ gs, 0 ≤ z) ⟨(KP.new (S := fun _ => False) hq).toSame, [], upd_same, Nat.le_refl _, fun z hz => nomatch hz⟩ (fun i H4 _ x => SqL.of (x.1 _ _ hD2)) (fun i x H4 hi x4 => ?_) (fun H4 x4 => ?_)
      · obtain ⟨z, hz, rfl⟩ := List.mem_map.mp (mem_of_get hi)
        obtain ⟨S4, gs, e4, l4, p4⟩ := x4
        have hi48 : i < 48 := by
          have := (List.getElem?_eq_some_iff.mp hi).1
          rw [List.length_map] at this
          omega
        refine ⟨wipe1 _ _ _, _, rfl, _, _, rfl, rfl, ⟨by decide, by decide, by decide⟩, _, _, rfl, rfl, _, rfl, ite2 (fun _ => ?_) (fun _ => ⟨S4, gs, e4, by omega, p4⟩)⟩
        refine ⟨_, rfl, _, e4, ?_, ?_, gs ++ [z], ?_, ?_, ?_⟩
        · rw [List.length_map]
          exact Nat.lt_of_le_of_lt (by omega : _ ≤ 48) (by decide)
        · exact ((KP.same (S := fun _ => False) S4).mut hq).toSame
        · rw [upd_same, List.map_append]
          rfl
        · rw [List.length_append]
          simp only [List.length_cons, List.length_nil]
          omega
        · intro y hy
          rcases List.mem_append.mp hy with h | h
          · exact p4 y h
          · rw [List.mem_singleton.mp h]
            exact c0 z hz
      · obtain ⟨S4, gs, e4, l4, p4⟩ := x4
        rw [List.length_map] at l4
        refine ⟨q, _, rfl, SqL.of e4, fun l hl => ⟨_, rfl, by show 2 ≤ sizeLine; decide, fun d hd => ?_⟩⟩
        rw [← List.map_reverse] at hd ⊢
        have nl : H l = none := (S2.trans S4).free hl
        refine k _ d l ⟨gs.reverse, b, ⟨upd_same, nk upd_same hd, fun y hy => p4 y (List.mem_reverse.mp hy), by rw [List.length_reverse]; omega, b0, b1⟩⟩ ?_ ((S2.trans S4).free (ff hl hd)) nl
        exact (((KP.same (S := fun _ => False) (S2.trans S4)).trans (KP.new hl)).trans (KP.new hd)).toSame
end
end Lk

set_option Elab.async false
set_option maxRecDepth 100000
set_option maxHeartbeats 1000000
namespace Lk
open PySem L2
def rLs (K : PySem.W.Frag) : List V → Hp → VK → Prop := fun xs H Q => ∃ p ys, xs = [.ref p] ∧ (SqL K H p ys ∨ SqT K H p ys) ∧ ∀ l, H l = none → Q (.ref l) (upd H l (.lst ys))
def rLn (K : PySem.W.Frag) : List V → Hp → VK → Prop := fun xs H Q => ∃ p ys, xs = [.ref p] ∧ (SqL K H p ys ∨ SqT K H p ys) ∧ Q (.int ys.length) H
theorem cases_list {α : Type} {xs : List α} {i : Nat} {x : α} (h : xs[i]? = some x) : i < xs.length := (List.getElem?_eq_some_iff.mp h).1
theorem grid_get {ts : List (Addr × List Int)} {i : Nat} {x : V} (h : (ts.map fun t => V.ref t.1)[i]? = some x) : ∃ t ∈ ts, x = V.ref t.1 := by
  obtain ⟨t, ht, e⟩ := List.mem_map.mp (mem_of_get h)
  exact ⟨t, ht, e.symm⟩
section
variable {P : Program} {w : World} {K : PySem.W.Frag} {mg : Str → Option Value} {base : Heap}
theorem ok_wide {f fa fM : Addr} {fd fda fdM : FuncData} (A0 : Df K mg "_law_wide" s_law_wide f fd P_law_wide) (d_law_any : Df K mg "_law_any" s_law_any fa fda P_law_any) (d_law_machine : Df K mg "_law_machine" s_law_machine fM fdM P_law_machine) (GM : FnOk P w K mg base CX0 4 fM fdM P_law_machine spMachine) (T : Txt mg) : FnOk P w K mg base CX0 5 f fd P_law_wide spWide := by
  have G_law_any : FnOk P w K mg base CX0 1 fa fda P_law_any spAny := ok_any d_law_any T
  have G_law_machine := GM
  refine A0.F.ok sc_law_wide (fun vs H Q E h => ?_) (fun cdv A outer s H vs Q E hr h => ?_)
  · obtain ⟨d, l, most, rfl, _⟩ := h
    rfl
  · obtain ⟨d, l, most, rfl, m0, m1, D, k⟩ := h
    refine ⟨_, (pss_cons (ps_asg (pe_call G_law_machine (hr.mono (by decide)) rfl d_law_machine.g d_law_machine.F.kp d_law_machine.b .nil pass0 (pa_cons (pv 0) (pa_cons (pv 1) pa_nil))) (pg_tup rfl (pgs_cons (pg_name (i := 2) sc_law_wide.nd rfl (Or.inr rfl)) (pgs_cons (pg_name (i := 3) sc_law_wide.nd rfl (Or.inr rfl)) pgs_nil))))
    (pss_cons (ps_if (pt_cmpR op_gt (pe_call G_law_any (hr.mono (by decide)) rfl d_law_any.g d_law_any.F.kp d_law_any.b .nil pass0 (pa_cons (pv 0) (pa_cons pe_int pa_nil))) pe_int (nomark _)) (pss_one (ps_ret (pe_tup (pa_cons (pv 2) (pa_cons (pv 3) pa_nil))))) pss_nil)
    (pss_one (ps_ret (pe_tup (pa_cons pe_int (pa_cons (pe_lc (own := [("row", 5)]) (g := gName 5) (tt := tYes)
        (te := tOp rCat (tCB (rLs K) (tCons (tVar 5) tNil)) (tLc (iRng1 (tCons (tOp (rI0 fun i j => .int (i - j)) (tC (.int 5)) (tVar 2)) tNil)) (gName 4) tYes (tCall spAny [] E0 (tCons (tVar 0) (tCons (tCB (rLn K) (tCons (tVar 3) tNil)) tNil))) [4]))
        rfl sc_law_wide.nd (pi_list (pv 3)) (blkOk_by (N := N_law_wide) (sc := defScope s_law_wide) (by decide +kernel)) (fun _ _ _ _ _ => (pg_name (i := 5) sc_law_wide.nd rfl (Or.inl rfl))) (fun _ _ _ _ _ => pts_nil)
        (fun _ _ _ _ _ => (pe_op op_cat (pe_callTy call_list_of (by rfl) T.list (by decide +kernel) (pa_cons (pv 5) pa_nil)) (pe_lc (own := [("more", 4)]) (wi := iRng1 (tCons (tOp (rI0 fun i j => .int (i - j)) (tC (.int 5)) (tVar 2)) tNil)) (g := gName 4) (tt := tYes) (te := tCall spAny [] E0 (tCons (tVar 0) (tCons (tCB (rLn K) (tCons (tVar 3) tNil)) tNil)))
          rfl sc_law_wide.nd (pi_range1 rfl T.range (pa_cons (pe_op op_sub pe_int (pv 2)) pa_nil)) (blkOk_by (N := N_law_wide) (sc := { kind := .function, names := [(".0", .local), ("row", .local), ("list", .globalImplicit), ("range", .globalImplicit), ("commands", .cell), ("deal", .cell), ("steps", .cell)], isGenerator := false, isCoroutine := false }) (by decide +kernel)) (fun _ _ _ _ _ => (pg_name (i := 4) sc_law_wide.nd rfl (Or.inl rfl))) (fun _ _ _ _ _ => pts_nil)
          (fun _ _ _ _ _ => (pe_call G_law_any (hr.mono (by decide)) rfl d_law_any.g d_law_any.F.kp d_law_any.b .nil pass0 (pa_cons (pv 0) (pa_cons (pe_callB call_len_seq (by rfl) T.len PySem.boot_len (pa_cons (pv 3) pa_nil)) pa_nil)))))))) pa_nil))))))), ?_⟩
    refine ⟨_, rfl, _, rfl, d, l, most, rfl, m0, m1, D, fun H1 t p A ts D1 S1 t0 ht N1 G1 A0 A3 hm R1 => ?_⟩
    refine ⟨t, _, rfl, SqT.of ht, rfl, _, _, rfl, _, _, rfl, rfl, ?_⟩
    refine ⟨_, rfl, d, l, _, rfl, by decide, by decide, D1, fun H2 r D2 S2 r0 r1 => ⟨_, _, rfl, rfl, _, rfl, ite2 (fun _ => ?_) (fun _ => ?_)⟩⟩
    · have nt : ∀ u ∈ ts, ¬ dl d l u.1 := fun u hu => D.free (N1.row u hu)
      have G2 := G1.kp S2.kp (D.free N1.top) nt
      refine ⟨_, rfl, _, rfl, by show 2 ≤ sizeLine; decide, fun t2 ht2 => ?_⟩
      exact k _ t2 p A ts (D2.new ht2) ((S1.trans S2).trans (SB.new ht2)) ((S1.trans S2).kp.free (D2.free ht2) ht2) upd_same N1 (G2.new ht2) A0 (by omega) hm R1
    · have nt : ∀ u ∈ ts, ¬ dl d l u.1 := fun u hu => D.free (N1.row u hu)
      have np := D.free N1.top
      have G2 := G1.kp S2.kp np nt
      have hlen : ts.length ≤ 100 := by omega
      have hpos := R1.pos
      refine ⟨_, rfl, p, rfl, ⟨_, SqL.of G2.top⟩, fun q hq => ?_⟩
      refine lcGL (K := K) (xs := ts.map fun t => V.ref t.1) (fun _ r => r.length = 5 ∧ ∀ z ∈ r, 0 ≤ z ∧ z < (ts.length : Int)) hq D2 (by rw [List.length_map]; omega) (fun H3 k3 => SqL.of (k3.kp.get np G2.top)) (fun i x H3 hi x3 k3 Q3 kQ => ?_) (fun us H3 hl hz hN hG x3 k3 => ?_)
      · obtain ⟨u, hu, rfl⟩ := grid_get hi
        have G3 := G2.kp k3.kp np nt
        obtain ⟨ru, zu⟩ := R1.row u hu
        refine ⟨_, rfl, u.1, _, rfl, .inl (SqL.of (G3.row u hu)), fun q1 h1 => ?_⟩
        refine ⟨_, rfl, _, _, rfl, rfl, _, rfl, by omega, by omega, fun q2 h2 => ?_⟩
        refine lcI (fun _ z => 0 ≤ z ∧ z < (ts.length : Int)) h2 (x3.new h1) (by omega) (fun i H4 hi4 x4 k4 Q4 kQ4 => ?_) (fun ns H4 hl4 hz4 hq4 x4 k4 => ?_)
        · have G4 := (G3.new (o := HO.lst (u.2.map V.int)) h1).kp k4.kp np nt
          refine ⟨_, rfl, _, rfl, p, _, rfl, .inl (SqL.of G4.top), d, l, _, rfl, by rw [List.length_map]; omega, by rw [List.length_map]; omega, x4, fun H5 z x5 k5 z0 z1 => kQ4 _ _ x5 k5 ?_⟩
          rw [List.length_map] at z1
          exact ⟨z0, z1⟩
        · have n1 : ¬ dl d l q1 := x3.free h1
          have e1 : H4 q1 = some (.lst (u.2.map V.int)) := k4.kp.get n1 upd_same
          refine ⟨q1, q2, _, _, rfl, rfl, e1, hq4, ?_, fun q3 h3 => ?_⟩
          · rw [List.length_map, List.length_map]
            exact Nat.le_trans (by omega : _ ≤ 1000) (by decide)
          · have hx := (SB.new (d := d) (l := l) h1).trans k4
            refine kQ q3 (u.2 ++ ns) _ (x4.new h3) (hx.trans (SB.new h3)) (hx.kp.free (x4.free h3) h3) (by rw [upd_same, List.map_append]) ⟨by rw [List.length_append]; omega, fun z hz' => ?_⟩
            rcases List.mem_append.mp hz' with h | h
            · exact zu z h
            · exact all_of_get hz4 z h
      · refine ⟨by show 2 ≤ sizeLine; decide, fun t2 ht2 => ?_⟩
        rw [List.length_map] at hl
        refine k _ t2 q 5 us (x3.new ht2) (((S1.trans S2).trans k3).trans (SB.new ht2)) (((S1.trans S2).trans k3).kp.free (x3.free ht2) ht2) upd_same (hN.deal (S1.trans S2) D2) (hG.new ht2) (by decide) (by decide) (by omega) ⟨by omega, fun u hu => ?_⟩
        obtain ⟨i, hi⟩ := List.getElem?_of_mem hu
        rw [hl]
        exact hz i u hi
end
end Lk

set_option Elab.async false
set_option maxRecDepth 100000
set_option maxHeartbeats 1000000
namespace Lk
open PySem L2
theorem take_next {α : Type} : ∀ {xs : List α} {i : Nat} {x : α}, xs[i]? = some x → xs.take (i + 1) = xs.take i ++ [x]
  | [], _, _, h => by simp at h
  | y :: xs, 0, x, h => by
    have e : y = x := Option.some.inj h
    rw [e]
    rfl
  | y :: xs, i + 1, x, h => by
    show y :: xs.take (i + 1) = y :: (xs.take i ++ [x])
    rw [take_next (xs := xs) (i := i) h]
theorem sameT {K : PySem.W.Frag} {H H' : Hp} {a : Addr} {xs : List V} (e : Same H H') (h : SqT K H a xs) : SqT K H' a xs := by
  rcases h with (h | ⟨o, h⟩) | h
  · exact .inl (.inl (e _ _ h))
  · exact .inl (.inr ⟨o, e _ _ h⟩)
  · exact .inr h
section
variable {K : PySem.W.Frag} {j : Nat} {te : TE} {σ : St} {H1 : Hp} {D : Addr} {Qd : Hp → Prop}

theorem lcPL {a : Addr} {xs : List V} (F : V → V) (hD : H1 D = none) (hn : xs.length ≤ 1000000) (ha : SqL K H1 a xs)
    (hs : ∀ x ∈ xs, ∀ H, Same H1 H → ∀ Q : VK, (∀ H4, Same H H4 → Q (F x) H4) → te ((wipe σ [j]).set j (some x)) H Q)
    (hd : ∀ H', H' D = some (.lst (xs.map F)) → Same H1 H' → Qd H') :
    ∃ W : Nat → Nat → Hp → Prop, (∃ m, W 0 m (upd H1 D (.lst []))) ∧ ∀ i m H, W i m H →
      ((Itl K a).stop i H ∧ Qd H) ∨ ((Itl K a).go i H ∧ ∃ Nx : Hp → Prop, (∀ H', Nx H' → ∃ m', m' < m ∧ W (i + 1) m' H') ∧ ∀ x H', (Itl K a).yld i H x H' → gName j x (wipe σ [j]) H' fun σ2 H2 => wipe σ2 [j] = wipe σ [j] ∧ tYes σ2 H2 fun b H3 =>
        if b = true then te σ2 H3 fun y H4 => ∃ acc, H4 D = some (.lst acc) ∧ acc.length < sizeLine ∧ Nx (upd H4 D (.lst (acc ++ [y]))) else Nx H3) := by
  refine lc_list (xs := xs) (fun i H => Same H1 H ∧ H D = some (.lst ((xs.take i).map F))) ⟨(KP.new (S := fun _ => False) hD).toSame, upd_same⟩ (fun i H _ x => Same.seq x.1 ha) (fun i x0 H hi x => ?_) (fun H x => ?_)
  · refine ⟨wipe1 _ _ _, iteT (B := Same H1 H ∧ H D = some (.lst ((xs.take (i + 1)).map F))) ?_⟩
    refine hs x0 (mem_of_get hi) H x.1 _ fun H4 S4 => ⟨_, S4 _ _ x.2, ?_, ((KP.same (S := fun _ => False) (x.1.trans S4)).mut hD).toSame, ?_⟩
    · rw [List.length_map, List.length_take]
      exact Nat.lt_of_le_of_lt (Nat.le_trans (Nat.min_le_right _ _) hn) (by decide)
    · rw [upd_same, take_next hi, List.map_append]
      rfl
  · have e := x.2
    rw [List.take_length] at e
    exact hd H e x.1

theorem lcPT {a : Addr} {xs : List V} (F : V → V) (hD : H1 D = none) (hn : xs.length ≤ 1000000) (ha : SqT K H1 a xs)
    (hs : ∀ x ∈ xs, ∀ H, Same H1 H → ∀ Q : VK, (∀ H4, Same H H4 → Q (F x) H4) → te ((wipe σ [j]).set j (some x)) H Q)
    (hd : ∀ H', H' D = some (.lst (xs.map F)) → Same H1 H' → Qd H') :
    ∃ W : Nat → Nat → Hp → Prop, (∃ m, W 0 m (upd H1 D (.lst []))) ∧ ∀ i m H, W i m H →
      ((Itt K a).stop i H ∧ Qd H) ∨ ((Itt K a).go i H ∧ ∃ Nx : Hp → Prop, (∀ H', Nx H' → ∃ m', m' < m ∧ W (i + 1) m' H') ∧ ∀ x H', (Itt K a).yld i H x H' → gName j x (wipe σ [j]) H' fun σ2 H2 => wipe σ2 [j] = wipe σ [j] ∧ tYes σ2 H2 fun b H3 =>
        if b = true then te σ2 H3 fun y H4 => ∃ acc, H4 D = some (.lst acc) ∧ acc.length < sizeLine ∧ Nx (upd H4 D (.lst (acc ++ [y]))) else Nx H3) := by
  refine lc_tup (xs := xs) (fun i H => Same H1 H ∧ H D = some (.lst ((xs.take i).map F))) ⟨(KP.new (S := fun _ => False) hD).toSame, upd_same⟩ (fun i H _ x => sameT x.1 ha) (fun i x0 H hi x => ?_) (fun H x => ?_)
  · refine ⟨wipe1 _ _ _, iteT (B := Same H1 H ∧ H D = some (.lst ((xs.take (i + 1)).map F))) ?_⟩
    refine hs x0 (mem_of_get hi) H x.1 _ fun H4 S4 => ⟨_, S4 _ _ x.2, ?_, ((KP.same (S := fun _ => False) (x.1.trans S4)).mut hD).toSame, ?_⟩
    · rw [List.length_map, List.length_take]
      exact Nat.lt_of_le_of_lt (Nat.le_trans (Nat.min_le_right _ _) hn) (by decide)
    · rw [upd_same, take_next hi, List.map_append]
      rfl
  · have e := x.2
    rw [List.take_length] at e
    exact hd H e x.1

theorem lcPR {n : Nat} (F : Nat → V) (hD : H1 D = none) (hn : n ≤ 1000000)
    (hs : ∀ i, i < n → ∀ H, Same H1 H → ∀ Q : VK, (∀ H4, Same H H4 → Q (F i) H4) → te ((wipe σ [j]).set j (some (.int (0 + i)))) H Q)
    (hd : ∀ H', H' D = some (.lst ((List.range n).map F)) → Same H1 H' → Qd H') :
    ∃ W : Nat → Nat → Hp → Prop, (∃ m, W 0 m (upd H1 D (.lst []))) ∧ ∀ i m H, W i m H →
      ((Itr 0 n).stop i H ∧ Qd H) ∨ ((Itr 0 n).go i H ∧ ∃ Nx : Hp → Prop, (∀ H', Nx H' → ∃ m', m' < m ∧ W (i + 1) m' H') ∧ ∀ x H', (Itr 0 n).yld i H x H' → gName j x (wipe σ [j]) H' fun σ2 H2 => wipe σ2 [j] = wipe σ [j] ∧ tYes σ2 H2 fun b H3 =>
        if b = true then te σ2 H3 fun y H4 => ∃ acc, H4 D = some (.lst acc) ∧ acc.length < sizeLine ∧ Nx (upd H4 D (.lst (acc ++ [y]))) else Nx H3) := by
  refine lc_range (fun i H => Same H1 H ∧ H D = some (.lst ((List.range i).map F))) ⟨(KP.new (S := fun _ => False) hD).toSame, upd_same⟩ (fun i H hi x => ?_) (fun H x => hd H x.2 x.1)
  refine ⟨wipe1 _ _ _, iteT (B := Same H1 H ∧ H D = some (.lst ((List.range (i + 1)).map F))) ?_⟩
  refine hs i hi H x.1 _ fun H4 S4 => ⟨_, S4 _ _ x.2, ?_, ((KP.same (S := fun _ => False) (x.1.trans S4)).mut hD).toSame, ?_⟩
  · rw [List.length_map, List.length_range]
    exact Nat.lt_of_le_of_lt (Nat.le_trans (Nat.le_of_lt hi) hn) (by decide)
  · rw [upd_same, List.range_succ, List.map_append]
    rfl
end
/-! ### the law's own walks, as functions -/
def stp (rs : List (List Int)) (s c : Int) : Int := (rs.getD s.toNat []).getD c.toNat 0
def led (rs : List (List Int)) (s : Int) (ns : List Int) : Int := ns.foldl (stp rs) s
def effs (rs : List (List Int)) (ns : List Int) : List Int := (List.range rs.length).map fun (s : Nat) => led rs (s : Int) ns
def comp (f g : List Int) : List Int := f.map fun s => g.getD s.toNat 0
def powG : Nat → Nat → List Int → List Int → List Int
  | 0, _, _, found => found
  | k + 1, t, one, found => if t = 0 then found else powG k (t / 2) (comp one one) (if t % 2 = 1 then comp found one else found)
/-- a machine's rows: states are below their number, commands below A -/
structure Rs (A : Nat) (rs : List (List Int)) : Prop where
  pos : 0 < rs.length
  row : ∀ r ∈ rs, r.length = A ∧ ∀ z ∈ r, 0 ≤ z ∧ z < (rs.length : Int)
theorem RowsOk.rs {A : Nat} {ts : List (Addr × List Int)} (x : RowsOk A ts) : Rs A (ts.map (·.2)) := by
  refine ⟨by rw [List.length_map]; exact x.pos, fun r hr => ?_⟩
  obtain ⟨t, ht, rfl⟩ := List.mem_map.mp hr
  rw [List.length_map]
  exact x.row t ht
theorem getD_of {α : Type} {xs : List α} {i : Nat} {d x : α} (h : xs[i]? = some x) : xs.getD i d = x := by
  rw [List.getD_eq_getElem?_getD, h] <;> rfl
/-- an index below, as an item -/
theorem item_of {α : Type} {xs : List α} {s : Int} (h0 : 0 ≤ s) (h1 : s < (xs.length : Int)) (d : α) : xs[s.toNat]? = some (xs.getD s.toNat d) := by
  have h : s.toNat < xs.length := by omega
  rw [List.getElem?_eq_getElem h, getD_of (List.getElem?_eq_getElem h)]
theorem Rs.stp {A : Nat} {rs : List (List Int)} (x : Rs A rs) {s c : Int} (s0 : 0 ≤ s) (s1 : s < rs.length) (c0 : 0 ≤ c) (c1 : c < A) : 0 ≤ Lk.stp rs s c ∧ Lk.stp rs s c < (rs.length : Int) := by
  have hm := mem_of_get (item_of s0 s1 ([] : List Int))
  obtain ⟨h1, h2⟩ := x.row _ hm
  exact h2 _ (mem_of_get (item_of c0 (by rw [h1]; exact c1) (0 : Int)))
theorem Rs.led {A : Nat} {rs : List (List Int)} (x : Rs A rs) : ∀ {ns : List Int} {s : Int}, 0 ≤ s → s < rs.length → (∀ c ∈ ns, 0 ≤ c ∧ c < (A : Int)) → 0 ≤ Lk.led rs s ns ∧ Lk.led rs s ns < (rs.length : Int)
  | [], s, h0, h1, _ => ⟨h0, h1⟩
  | c :: ns, s, h0, h1, h => by
    obtain ⟨c0, c1⟩ := h c List.mem_cons_self
    obtain ⟨q0, q1⟩ := x.stp h0 h1 c0 c1
    exact x.led (ns := ns) q0 q1 fun z hz => h z (List.mem_cons_of_mem _ hz)
end Lk

set_option Elab.async false
set_option maxRecDepth 100000
set_option maxHeartbeats 1000000
namespace Lk
open PySem L2
/-- a drawn row -/
def spRow : Sp := fun vs H Q _ => ∃ (d l : Addr) (A n : Int), vs = [.ref d, .int A, .int n] ∧ 0 < A ∧ A ≤ 1000 ∧ 0 ≤ n ∧ n ≤ 1000 ∧ DealAt H d l ∧
  ∀ (H' : Hp) (p : Addr) (ns : List Int), DealAt H' d l → SB d l H H' → H p = none → H' p = some (.tup (ns.map V.int)) → (ns.length : Int) = n → (∀ z ∈ ns, 0 ≤ z ∧ z < A) → Q (.ref p) H'
def rsOf (ts : List (Addr × List Int)) : List (List Int) := ts.map (·.2)
def spLed (K : PySem.W.Frag) : Sp := fun vs H Q _ => ∃ (a p : Addr) (s : Int) (A : Nat) (ts : List (Addr × List Int)) (ns : List Int), vs = [.ref a, .int s, .ref p] ∧ GridAt H a ts ∧ RowsOk A ts ∧ 0 ≤ s ∧ s < ts.length ∧ SqT K H p (ns.map V.int) ∧ (∀ c ∈ ns, 0 ≤ c ∧ c < (A : Int)) ∧
  Q (.int (led (rsOf ts) s ns)) H
def spEffect (K : PySem.W.Frag) : Sp := fun vs H Q _ => ∃ (a p : Addr) (A : Nat) (ts : List (Addr × List Int)) (ns : List Int), vs = [.ref a, .ref p] ∧ GridAt H a ts ∧ RowsOk A ts ∧ ts.length ≤ 1000 ∧ SqT K H p (ns.map V.int) ∧ (∀ c ∈ ns, 0 ≤ c ∧ c < (A : Int)) ∧
  ∀ (H' : Hp) (q : Addr), Same H H' → H q = none → H' q = some (.tup ((effs (rsOf ts) ns).map V.int)) → Q (.ref q) H'
def rng (n : Nat) : List Int := (List.range n).map fun (i : Nat) => (i : Int)
def spPower (K : PySem.W.Frag) : Sp := fun vs H Q _ => ∃ (a : Addr) (t : Int) (fs : List Int), vs = [.ref a, .int t] ∧ SqL K H a (fs.map V.int) ∧ fs.length ≤ 1000 ∧ (∀ z ∈ fs, 0 ≤ z ∧ z < (fs.length : Int)) ∧ 0 ≤ t ∧ t < 2 ^ 63 ∧
  ∀ (H' : Hp) (q : Addr), Same H H' → H q = none → H' q = some (.tup ((powG 63 t.toNat fs (rng fs.length)).map V.int)) → Q (.ref q) H'
theorem rsOf_get {ts : List (Addr × List Int)} {i : Nat} {u : Addr × List Int} (h : ts[i]? = some u) : (rsOf ts)[i]? = some u.2 := by
  show (ts.map (·.2))[i]? = _
  rw [List.getElem?_map, h]
  rfl
section
variable {P : Program} {w : World} {K : PySem.W.Frag} {mg : Str → Option Value} {base : Heap}
def fC (one : List Int) : V → V
  | .int s => .int (one.getD s.toNat 0)
  | x => x
theorem fC_map (f g : List Int) : (f.map V.int).map (fC g) = (comp f g).map V.int := by
  unfold comp
  rw [List.map_map, List.map_map]
  rfl
structure InR (n : Nat) (f : List Int) : Prop where
  len : f.length = n
  mem : ∀ z ∈ f, 0 ≤ z ∧ z < (n : Int)
theorem InR.comp {n : Nat} {f g : List Int} (x : InR n f) (y : InR n g) : InR n (Lk.comp f g) := by
  refine ⟨by unfold Lk.comp; rw [List.length_map, x.len], fun z hz => ?_⟩
  obtain ⟨s, hs, rfl⟩ := List.mem_map.mp hz
  obtain ⟨s0, s1⟩ := x.mem s hs
  exact y.mem _ (mem_of_get (item_of s0 (by rw [y.len]; exact s1) (0 : Int)))
theorem InR.rng (n : Nat) : InR n (Lk.rng n) := by
  refine ⟨by unfold Lk.rng; simp, fun z hz => ?_⟩
  obtain ⟨i, hi, rfl⟩ := List.mem_map.mp hz
  have := List.mem_range.mp hi
  omega
theorem rgV_rng (n : Nat) : rgV 0 (n : Int) = (rng n).map V.int := by
  unfold rgV rng
  rw [List.map_map]
  simp
end
end Lk

set_option Elab.async false
set_option maxRecDepth 100000
set_option maxHeartbeats 1000000
/-! enumerate over a tuple, as a walk of the hand layer -/
namespace Lk
open PySem PySem.Spec PyProof.Rows L2
/-- a new enumerate object over the iterator at it -/
def enumO (it : Addr) : Obj := { cls := .type "enumerate", data := .fields #[.none, .bool false, .ref it, rawInt 0, .none, .none] }
theorem meets_enumT (a : Addr) (items : Array Value) (dct : Option Addr) (n : Nat) (sl : Array (Option Value)) :
    Meets (Builtin.«enumerate.__new__» ⟨[.type "enumerate", .ref a], []⟩) (fun _ R s =>
      s.heap.get? a = some { cls := .type "tuple", dict := dct, data := .seq items n, slots := sl } ∧
      R (.ok (.ret (.ref (s.heap.push { cls := .type "tuple_iterator", data := .fields #[.ref a, .int 0 0] }).objs.size)))
        { s with heap := (s.heap.push { cls := .type "tuple_iterator", data := .fields #[.ref a, .int 0 0] }).push (enumO s.heap.objs.size) }) :=
  .of_wp fun prog w A R s h => by
    obtain ⟨hp, g, d, tk, os⟩ := s
    obtain ⟨hl, h⟩ := h
    have hsub := sub_enumerate
    have hT : Heap.IsTuple (Shared.heap ⟨hp, g, d, tk, os⟩) a items := ⟨_, hl, rfl, n, rfl⟩
    wp_walk using AutoSeq1.wpAny_loadPart' hl
    refine wpAny_stack_any fun st => wpAny_pure ?_
    split
    · rename_i c _ _ _ _ _
      cases (c == Value.type "enumerate") <;>
      · wp_walk using AutoSeq1.wpAny_loadPart' hl, wpAny_pyIter_tuple hT
        exact ⟨_, rfl, h⟩
    · wp_walk using AutoSeq1.wpAny_loadPart' hl, wpAny_pyIter_tuple hT
      exact ⟨_, rfl, h⟩
section
variable {prog : Program} {w : World} {A : Around} {E : Value → Shared → Prop} {s : Shared}
theorem call_enumT {a : Addr} {items : Array Value} {Q : Value → Shared → Prop} (hT : s.heap.IsTuple a items)
    (h : ∀ h', IsEnum h' (s.heap.objs.size + 1) s.heap.objs.size 0 .none →
      h'.IsTupleIter s.heap.objs.size a 0 →
      (∀ b o, s.heap.get? b = some o → h'.get? b = some o) →
      Q (.ref (s.heap.objs.size + 1)) { s with heap := h' }) :
    wpAny (model prog w) A (call (.type "enumerate") [.ref a]) Q E s := by
  obtain ⟨⟨c, dct, dt, sl⟩, hl, hc, n, hd⟩ := hT
  replace hc : c = .type "tuple" := hc
  replace hd : dt = .seq items n := hd
  subst hc hd
  refine callType_new F.called_enumerate (by decide) (F.typeCall_enumerate_1 _) (F.newCall_enumerate_1 _)
    (fun obj => F.args_object_init_2 obj _) F.entry_enumerate_new (meets_enumT a items dct n sl) ⟨hl, ?_⟩
  have hz : (s.heap.push { cls := .type "tuple_iterator", data := .fields #[.ref a, .int 0 0] }).objs.size
      = s.heap.objs.size + 1 := Heap.size_push ..
  show _ ∧ _
  rw [hz]
  have he : IsEnum ((s.heap.push { cls := .type "tuple_iterator", data := .fields #[.ref a, .int 0 0] }).push (enumO s.heap.objs.size))
      (s.heap.objs.size + 1) s.heap.objs.size 0 .none := by
    have q := Heap.get?_push_size (s.heap.push { cls := .type "tuple_iterator", data := .fields #[.ref a, .int 0 0] })
      (o := enumO s.heap.objs.size) rfl
    rw [hz] at q
    exact q
  have hi : ((s.heap.push { cls := .type "tuple_iterator", data := .fields #[.ref a, .int 0 0] }).push (enumO s.heap.objs.size)).IsTupleIter
      s.heap.objs.size a 0 := ⟨_, Heap.get?_push_of_some _ (Heap.get?_push_size _ rfl), rfl, rfl⟩
  exact ⟨⟨_, he, rfl⟩, h _ he hi fun b o x => Heap.get?_push_of_some _ (Heap.get?_push_of_some _ x)⟩
end
theorem next_enumT_end {prog : Program} {w : World} {A : Around} {E : Value → Shared → Prop} {s : Shared}
    {e it a : Addr} {i : Nat} {items : Array Value} {old : Value} {Q : Option Value → Shared → Prop} (hh : A.handled = none)
    (he : IsEnum s.heap e it i old) (hit : s.heap.IsTupleIter it a i) (ha : s.heap.IsTuple a items) (hx : items[i]? = none)
    (hQ : ∀ h', Heap.ExtBut it s.heap h' → Q none { s with heap := h' }) :
    wpAny (model prog w) A (pyNext (.ref e)) Q E s := by
  have hT : s.TypeIs (.ref e) "enumerate" := ⟨_, he, rfl⟩
  unfold pyNext
  refine wpAny_bind (wpAny_attempt (wpAny_callSpecial?_slot (name := Str.ofString "__next__") hT
    F.slot_enumerate_next (wpAny_call_entry F.slot_enumerate_next hT F.entry_enumerate_next ?_
      (F.args_enumerate_next_1 _))))
  show wpAny _ _ (field (.ref e) 2 >>= _) _ _ _
  refine wpAny_bind (wpAny_field he rfl (x := .ref it) rfl (wpAny_bind
    (wpAny_nextOf_tuple_end hh hit ha hx fun h' x hb hc => ?_)))
  obtain ⟨o, ho, hc⟩ := hc
  refine wpAny_bind (wpAny_isInstance (T := "StopIteration") (b := true) ⟨o, ho, hc⟩ isSubtype_stop ?_)
  exact wpAny_pure (hQ _ hb)
/-- the tuple at a, each item in a new pair with its index -/
def ItE (K : PySem.W.Frag) (a : Addr) : It :=
  ⟨fun i H => ∃ (xs : List V) (x : V), SqT K H a xs ∧ xs[i]? = some x,
    fun i H v H' => ∃ T x, v = .ref T ∧ H T = none ∧ H' = upd H T (.tup [.int (i : Nat), x]) ∧
      ∀ xs, SqT K H a xs → xs[i]? = some x,
    fun i H => ∃ xs : List V, SqT K H a xs ∧ xs.length ≤ i⟩
theorem turn_enumT {P : Program} {w : World} {K : PySem.W.Frag} {elts : List Expr} {kk : Nat} {tpos : Pos} (a e it : Addr) :
    Turn P w K (.Tuple elts kk tpos) (ItE K a) [e, it] e
      (fun i h => (∃ old, IsEnum h e it ((i : Nat) : Int) old) ∧ h.IsTupleIter it a i ∧ e ≠ it ∧ a ≠ it ∧ e ≠ a) where
  mem := by simp
  obj := fun i h st b hb => by
    obtain ⟨⟨old, he⟩, ⟨o, ho, hc, hd⟩, _⟩ := st
    have e' : b = e ∨ b = it := by simpa using hb
    rcases e' with z | z
    · rw [z]
      exact ⟨_, he, fun v q => nomatch q⟩
    · rw [z]
      exact ⟨o, ho, fun v q => by rw [hd] at q; cases q⟩
  keep := fun i h h' st k =>
    let ⟨⟨old, he⟩, hi, hne⟩ := st
    ⟨⟨old, k e (by simp) _ he⟩, hi.at fun o q => k it (by simp) o q, hne⟩
  item := by
    intro X hP hw hK hc i pins s σ H E I hf st hg
    subst hP hw hK
    obtain ⟨⟨old, he⟩, hit, hne, hat, hea⟩ := st
    obtain ⟨xs, x, hq, hx⟩ := hg
    obtain ⟨its, rv, p, hz⟩ := I.tuple hq
    obtain ⟨u, hu, ru⟩ := rv.get hx
    have hel : e < s.heap.objs.size := Heap.lt_size he
    have hil : it < s.heap.objs.size := by obtain ⟨_, q, _⟩ := hit; exact Heap.lt_size q
    have p' : s.heap.IsTuple a its.toArray := p
    have hlt : i < its.toArray.size := by
      have := (List.getElem?_eq_some_iff.mp hu).1
      simpa using this
    have hh : X.A.in1.handled = none := I.ok.hd hc
    refine wpAny_pyNext_enum_itemD (Draws.tuple (prog := X.prog) (w := X.w) (A := X.A.in1) hh it a hat its.toArray) he
      ⟨hit, p'⟩ hlt hne (by simp; exact ⟨hne, hea⟩) fun y h' tk hy ho hst hT hsz hk => ?_
    have ey : y = u := by
      have q : its.toArray[i]? = some u := by simpa using hu
      rw [q] at hy
      exact (Option.some.inj hy).symm
    subst ey
    refine ⟨_, rfl, wpAny_letOwnedTupleGo_enum (s := { s with heap := h', toks := tk + 1 }) ho fun h'' he' sb => ?_⟩
    have hT2 : h''.get? s.heap.objs.size = some { cls := .type "tuple", data := .seq #[.int i tk, y] } :=
      (sb.2 _ (Nat.ne_of_gt hel)).trans hT
    have new : ObjOk X.prog X.w (upd H s.heap.objs.size (.tup [.int (i : Nat), x])) h'' s.heap.objs.size (.tup [.int (i : Nat), x]) :=
      ⟨by show 2 ≤ sizeLine; decide, [.int i tk, y], .cons ⟨_, rfl⟩ (.cons ru .nil), ⟨_, hT2, rfl, _, rfl⟩⟩
    have I1 : Inv X pins σ (upd H s.heap.objs.size (.tup [.int (i : Nat), x])) { s with heap := h'', toks := tk + 1 } :=
      I.turnedNew (ch := [e, it]) (fun b ob hb q => (sb.2 b (fun z => hb (by simp [z]))).trans
        (hk b ob (fun z => hb (by simp [z])) (fun z => hb (by simp [z])) q)) hf (Nat.le_refl _) new
    refine ⟨.ref s.heap.objs.size, _, I1, rfl, ⟨_, x, rfl, I.hok.fresh (Nat.le_refl _), rfl, fun ys hy => by
      rw [I.tuple_inj hy hq]; exact hx⟩, ⟨⟨y, ?_⟩, hst.1.at fun o q => (sb.2 it (Ne.symm hne)).trans q, hne, hat, hea⟩, fun b hb => ?_⟩
    · have e1 : ((i + 1 : Nat) : Int) = (i : Int) + 1 := by omega
      rw [e1]
      exact he'
    · have hb' : b < s.heap.objs.size := by
        have e' : b = e ∨ b = it := by simpa using hb
        rcases e' with z | z
        · rw [z]; exact hel
        · rw [z]; exact hil
      rw [upd_ne (Nat.ne_of_lt hb')]
      exact (hf b hb).1
  done := by
    intro X hP hw hK hc i pins s σ H E I hf st hg
    subst hP hw hK
    obtain ⟨⟨old, he⟩, hit, hne, hat, hea⟩ := st
    obtain ⟨xs, hq, hx⟩ := hg
    obtain ⟨its, rv, p, hz⟩ := I.tuple hq
    obtain ⟨f0, f1, f2, f3, f4, f5⟩ := hf it (by simp)
    have hl := rv.length
    exact next_enumT_end (I.ok.hd hc) he hit (show s.heap.IsTuple a its.toArray from p) (by simp; omega) fun h' eb =>
      ⟨rfl, I.turned (t' := s.toks) (fun b o hb q => eb b o hb q) f0 f1 f3 f4 f5⟩
  self := fun A i s Q E st h => let ⟨⟨_, he⟩, _⟩ := st; wpAny_pyIter_enum he h
def iEnumT (K : PySem.W.Frag) (ta : TA) : TI := fun σ H R => ta σ H fun vs H1 => ∃ a xs, vs = [.ref a] ∧ SqT K H1 a xs ∧ R (ItE K a) H1
theorem pi_enumT {X : Cx} {e : Expr} {ta : TA} {p pos tpos : Pos} {elts : List Expr} {kk : Nat} (hg : Gl X "enumerate")
    (hm : X.mg "enumerate" = none) (ha : PA X [e] ta) (hs : starEach [e] X.env = [(false, eval e X.env)] := by rfl) :
    PI X (.Tuple elts kk tpos) (.Call (.Name "enumerate" p) [e] [] pos) (iEnumT X.K ta) := by
  refine ⟨fun pins s σ H R I h => ?_⟩
  refine Call_ (ld_blt I hg hm boot_enumerate (PyProof.Rows.callWith_type1
    (thn (ha.run pos pins s σ H _ I h) fun us s1 ⟨vs, H1, I1, r1, q1⟩ => ?_) hs rfl))
  obtain ⟨a, xs, ex, hq, q⟩ := q1
  subst ex
  cases r1 with
  | cons r rr =>
    cases rr
    cases r
    obtain ⟨its, rv, p', hz⟩ := I1.tuple hq
    have pT : s1.heap.IsTuple a its.toArray := p'
    have hal : a < s1.heap.objs.size := by obtain ⟨_, q, _⟩ := pT; exact Heap.lt_size q
    refine call_enumT pT fun h' he hit hk => wpAny_pyIter_enum he ?_
    have I2 : Inv X pins σ H1 { s1 with heap := h' } := I1.kept (t' := s1.toks) hk
    refine ⟨s1.heap.objs.size + 1, [s1.heap.objs.size + 1, s1.heap.objs.size], _, _, H1, rfl, I2,
      turn_enumT a (s1.heap.objs.size + 1) s1.heap.objs.size,
      ⟨⟨.none, he⟩, hit, Nat.succ_ne_self _, Nat.ne_of_lt hal, Nat.ne_of_gt (Nat.lt_succ_of_lt hal)⟩, fun b hb => ?_, q⟩
    have hle : s1.heap.objs.size ≤ b := by
      have e' : b = s1.heap.objs.size + 1 ∨ b = s1.heap.objs.size := by simpa using hb
      rcases e' with z | z
      · rw [z]; exact Nat.le_succ _
      · rw [z]; exact Nat.le_refl _
    exact I1.fpOk hle (I1.hok.fresh hle)
end Lk

set_option Elab.async false
set_option maxRecDepth 100000
set_option maxHeartbeats 1000000
namespace Lk
open PySem L2
/-! ### loops over enumerate -/
theorem for_enumT {K : PySem.W.Frag} {a : Addr} {xs : List V} {g : TG} {tb : TS} {D : Ends} {σ : St} {H : Hp} (Pv : Nat → St → Hp → Prop) (h0 : Pv 0 σ H) (hl : ∀ i σ H, Pv i σ H → SqT K H a xs)
    (hs : ∀ i x σ H T, xs[i]? = some x → Pv i σ H → H T = none → g (.ref T) σ (upd H T (.tup [.int (i : Nat), x])) fun σ2 H2 => tb { D with nx := Pv (i + 1), ct := Pv (i + 1), bk := D.nx } σ2 H2)
    (hd : ∀ σ H, Pv xs.length σ H → D.nx σ H) :
    ∃ W : Nat → Nat → St → Hp → Prop, (∃ m, W 0 m σ H) ∧ ∀ i m σ H, W i m σ H →
      ((ItE K a).stop i H ∧ D.nx σ H) ∨ ((ItE K a).go i H ∧ ∃ N : St → Hp → Prop, (∀ σ' H', N σ' H' → ∃ m', m' < m ∧ W (i + 1) m' σ' H') ∧ ∀ x H', (ItE K a).yld i H x H' → g x σ H' fun σ2 H2 => tb { D with nx := N, ct := N, bk := D.nx } σ2 H2) := by
  refine ⟨fun i m σ H => m = xs.length - i ∧ i ≤ xs.length ∧ Pv i σ H, ⟨xs.length, by simp, Nat.zero_le _, h0⟩, ?_⟩
  rintro i m σ H ⟨rfl, hi, p⟩
  have q := hl i σ H p
  by_cases h : i < xs.length
  · refine .inr ⟨⟨xs, xs[i], q, List.getElem?_eq_getElem h⟩, Pv (i + 1), fun σ' H' n => ⟨xs.length - (i + 1), by omega, rfl, by omega, n⟩, ?_⟩
    rintro x H' ⟨T, y, rfl, hT, rfl, hy⟩
    exact hs i y σ H T (hy xs q) p hT
  · have e : i = xs.length := by omega
    subst e
    exact .inl ⟨⟨xs, q, Nat.le_refl _⟩, hd σ H p⟩
theorem for_enumL {K : PySem.W.Frag} {a : Addr} {xs : List V} {g : TG} {tb : TS} {D : Ends} {σ : St} {H : Hp} (Pv : Nat → St → Hp → Prop) (h0 : Pv 0 σ H) (hl : ∀ i σ H, Pv i σ H → SqL K H a xs)
    (hs : ∀ i x σ H T, xs[i]? = some x → Pv i σ H → H T = none → g (.ref T) σ (upd H T (.tup [.int (i : Nat), x])) fun σ2 H2 => tb { D with nx := Pv (i + 1), ct := Pv (i + 1), bk := D.nx } σ2 H2)
    (hd : ∀ σ H, Pv xs.length σ H → D.nx σ H) :
    ∃ W : Nat → Nat → St → Hp → Prop, (∃ m, W 0 m σ H) ∧ ∀ i m σ H, W i m σ H →
      ((Ite K a).stop i H ∧ D.nx σ H) ∨ ((Ite K a).go i H ∧ ∃ N : St → Hp → Prop, (∀ σ' H', N σ' H' → ∃ m', m' < m ∧ W (i + 1) m' σ' H') ∧ ∀ x H', (Ite K a).yld i H x H' → g x σ H' fun σ2 H2 => tb { D with nx := N, ct := N, bk := D.nx } σ2 H2) := by
  refine ⟨fun i m σ H => m = xs.length - i ∧ i ≤ xs.length ∧ Pv i σ H, ⟨xs.length, by simp, Nat.zero_le _, h0⟩, ?_⟩
  rintro i m σ H ⟨rfl, hi, p⟩
  have q := hl i σ H p
  by_cases h : i < xs.length
  · refine .inr ⟨⟨xs, xs[i], q, List.getElem?_eq_getElem h⟩, Pv (i + 1), fun σ' H' n => ⟨xs.length - (i + 1), by omega, rfl, by omega, n⟩, ?_⟩
    rintro x H' ⟨T, y, rfl, hT, rfl, hy⟩
    exact hs i y σ H T (hy xs q) p hT
  · have e : i = xs.length := by omega
    subst e
    exact .inl ⟨⟨xs, q, Nat.le_refl _⟩, hd σ H p⟩

/-! ### any values, as data -/
mutual
inductive Dv (H : Hp) : V → PyData → Prop
  | non : Dv H .non .none
  | bl (b : Bool) : Dv H (.bl b) (.bool b)
  | int (i : Int) : Dv H (.int i) (.int i)
  | str (x : Str) : Dv H (.str x) (.str x)
  | lst {a : Addr} {xs : List V} {ds : List PyData} : H a = some (.lst xs) → DvAll H xs ds → Dv H (.ref a) (.list ds)
  | tup {a : Addr} {xs : List V} {ds : List PyData} : H a = some (.tup xs) → DvAll H xs ds → Dv H (.ref a) (.tuple ds)
  | dct {a : Addr} : H a = some (.dK []) → Dv H (.ref a) (.dict [])
inductive DvAll (H : Hp) : List V → List PyData → Prop
  | nil : DvAll H [] []
  | cons {v : V} {vs : List V} {d : PyData} {ds : List PyData} : Dv H v d → DvAll H vs ds → DvAll H (v :: vs) (d :: ds)
end
mutual
theorem Dv.kp {S : Addr → Prop} {H H' : Hp} (hS : ∀ a, S a → H a = none) (k : KP S H H') : ∀ {v : V} {d : PyData}, Dv H v d → Dv H' v d
  | _, _, .non => .non
  | _, _, .bl b => .bl b
  | _, _, .int i => .int i
  | _, _, .str x => .str x
  | _, _, .lst h t => .lst (k.get (fun s => by rw [hS _ s] at h; cases h) h) (DvAll.kp hS k t)
  | _, _, .tup h t => .tup (k.get (fun s => by rw [hS _ s] at h; cases h) h) (DvAll.kp hS k t)
  | _, _, .dct h => .dct (k.get (fun s => by rw [hS _ s] at h; cases h) h)
theorem DvAll.kp {S : Addr → Prop} {H H' : Hp} (hS : ∀ a, S a → H a = none) (k : KP S H H') : ∀ {vs : List V} {ds : List PyData}, DvAll H vs ds → DvAll H' vs ds
  | _, _, .nil => .nil
  | _, _, .cons h t => .cons (Dv.kp hS k h) (DvAll.kp hS k t)
end
theorem Dv.same {H H' : Hp} {v : V} {d : PyData} (k : Same H H') (h : Dv H v d) : Dv H' v d := h.kp (S := fun _ => False) (fun _ x => x.elim) (KP.same k)
theorem DvAll.same {H H' : Hp} {v : List V} {d : List PyData} (k : Same H H') (h : DvAll H v d) : DvAll H' v d := h.kp (S := fun _ => False) (fun _ x => x.elim) (KP.same k)
theorem DvAll.len {H : Hp} : ∀ {vs : List V} {ds : List PyData}, DvAll H vs ds → vs.length = ds.length
  | _, _, .nil => rfl
  | _, _, .cons _ t => congrArg (· + 1) t.len
theorem DvAll.get {H : Hp} : ∀ {vs : List V} {ds : List PyData} {i : Nat} {v : V}, DvAll H vs ds → vs[i]? = some v → ∃ d, ds[i]? = some d ∧ Dv H v d
  | _, _, i, v, .nil, h => by simp at h
  | _, _, 0, v, .cons h _, e => ⟨_, rfl, by have e' := Option.some.inj e; rw [← e']; exact h⟩
  | _, _, i + 1, v, .cons _ t, e => t.get (i := i) e
def tyD : PyData → String
  | .none => "NoneType"
  | .bool _ => "bool"
  | .int _ => "int"
  | .str _ => "str"
  | .list _ => "list"
  | .tuple _ => "tuple"
  | .dict _ => "dict"
theorem Dv.ty {K : PySem.W.Frag} {H : Hp} {v : V} {d : PyData} : Dv H v d → TyX K H v (.type (tyD d))
  | .non => .base .non
  | .bl b => .base (.bl b)
  | .int i => .base (.int i)
  | .str x => .base (.str x)
  | .lst h _ => .base (.lst h)
  | .tup h _ => .base (.tup h)
  | .dct h => .base (.dK h)
/-- an integer that is no bool; from 0 on; below a limit; a sequence; an entry -/
def isI : PyData → Bool
  | .int _ => true
  | _ => false
def isN : PyData → Bool
  | .int i => decide (0 ≤ i)
  | _ => false
def isB (n : Int) : PyData → Bool
  | .int i => decide (0 ≤ i) && decide (i < n)
  | _ => false
def isS : PyData → Bool
  | .list _ | .tuple _ => true
  | _ => false
def itemsD : PyData → List PyData
  | .list ds | .tuple ds => ds
  | _ => []
def isE (A n : Int) (d : PyData) : Bool := isS d && (decide (((itemsD d).length : Int) = A) && (itemsD d).all (isB n))
abbrev s_is_integer : Stmt := top 6
abbrev N_is_integer : List Str := ["value"]
abbrev P_is_integer : List Str := ["value"]
theorem sc_is_integer : FnScope N_is_integer P_is_integer (defScope s_is_integer) := ⟨rfl, rfl, rfl, by decide +kernel, rfl, by decide +kernel, by decide +kernel⟩
abbrev s_is_number : Stmt := top 7
abbrev N_is_number : List Str := ["value"]
abbrev P_is_number : List Str := ["value"]
theorem sc_is_number : FnScope N_is_number P_is_number (defScope s_is_number) := ⟨rfl, rfl, rfl, by decide +kernel, rfl, by decide +kernel, by decide +kernel⟩
abbrev s_is_below : Stmt := top 8
abbrev N_is_below : List Str := ["value", "limit"]
abbrev P_is_below : List Str := ["value", "limit"]
theorem sc_is_below : FnScope N_is_below P_is_below (defScope s_is_below) := ⟨rfl, rfl, rfl, by decide +kernel, rfl, by decide +kernel, by decide +kernel⟩
abbrev s_is_sequence : Stmt := top 9
abbrev N_is_sequence : List Str := ["value"]
abbrev P_is_sequence : List Str := ["value"]
theorem sc_is_sequence : FnScope N_is_sequence P_is_sequence (defScope s_is_sequence) := ⟨rfl, rfl, rfl, by decide +kernel, rfl, by decide +kernel, by decide +kernel⟩
abbrev s_are_below : Stmt := top 10
abbrev N_are_below : List Str := ["values", "limit", "value"]
abbrev P_are_below : List Str := ["values", "limit"]
theorem sc_are_below : FnScope N_are_below P_are_below (defScope s_are_below) := ⟨rfl, rfl, rfl, by decide +kernel, rfl, by decide +kernel, by decide +kernel⟩
abbrev s_is_entry : Stmt := top 14
abbrev N_is_entry : List Str := ["entry", "commands", "states"]
abbrev P_is_entry : List Str := ["entry", "commands", "states"]
theorem sc_is_entry : FnScope N_is_entry P_is_entry (defScope s_is_entry) := ⟨rfl, rfl, rfl, by decide +kernel, rfl, by decide +kernel, by decide +kernel⟩
/-- a test of one value -/
def spT1 (t : PyData → Bool) : Sp := fun vs H Q _ => ∃ (x : V) (d : PyData), vs = [x] ∧ Dv H x d ∧ ∀ H', Same H H' → Q (.bl (t d)) H'
def spBelow : Sp := fun vs H Q _ => ∃ (x : V) (d : PyData) (n : Int), vs = [x, .int n] ∧ Dv H x d ∧ Q (.bl (isB n d)) H
def spAre : Sp := fun vs H Q _ => ∃ (x : V) (d : PyData) (n : Int), vs = [x, .int n] ∧ Dv H x d ∧ isS d = true ∧ (itemsD d).length ≤ 100000 ∧ ∀ H', Same H H' → Q (.bl ((itemsD d).all (isB n))) H'
def spEntry : Sp := fun vs H Q _ => ∃ (x : V) (d : PyData) (A n : Int), vs = [x, .int A, .int n] ∧ Dv H x d ∧ (itemsD d).length ≤ 100000 ∧ ∀ H', Same H H' → Q (.bl (isE A n d)) H'
theorem Same.new {H : Hp} {p : Addr} {o : HO} (h : H p = none) : Same H (upd H p o) := (KP.new (S := fun _ => False) h).toSame
section
variable {P : Program} {w : World} {K : PySem.W.Frag} {mg : Str → Option Value} {base : Heap}
theorem ok_integer {f : Addr} {fd : FuncData} (A0 : Df K mg "is_integer" s_is_integer f fd P_is_integer) (T : Txt mg) : FnOk P w K mg base CX0 1 f fd P_is_integer (spT1 isI) := by
  refine A0.F.ok sc_is_integer (fun vs H Q E h => ?_) (fun cdv A outer s H vs Q E hr h => ?_)
  · obtain ⟨x, d, rfl, _⟩ := h
    rfl
  · obtain ⟨x, d, rfl, D, k⟩ := h
    refine ⟨_, (pss_one (ps_ret (pe_and (pe_callB call_isi (by rfl) T.isinstance PyProof.Rows.boot_isinstance (pa_cons (pv 0) (pa_cons (pe_bltn (v := .ty "int") (by rfl) T.int (by decide +kernel) rfl) pa_nil)))
      (pe_one (pe_not (pe_callB call_isi (by rfl) T.isinstance PyProof.Rows.boot_isinstance (pa_cons (pv 0) (pa_cons (pe_bltn (v := .ty "bool") (by rfl) T.bool (by decide +kernel) rfl) pa_nil)))))))), ?_⟩
    have key : ∀ (b1 b2 : Bool), PySem.W.kitOne K (.type (tyD d)) (.type "int") = some b1 → PySem.W.kitOne K (.type (tyD d)) (.type "bool") = some b2 → (b1 && !b2) = isI d → tRet (tAndV (tCB (rIsi K) (tCons (tVar 0) (tCons (tC (.ty "int")) tNil))) (tNotV (tCB (rIsi K) (tCons (tVar 0) (tCons (tC (.ty "bool")) tNil))))) { nx := fun _ H' => Q .non H', rt := Q } [some x] H := by
      intro b1 b2 h1 h2 h3
      refine ⟨_, rfl, x, _, _, _, b1, rfl, .ty _, D.ty, h1, b1, rfl, ?_⟩
      cases b1 with
      | false =>
        refine iteF ?_
        rw [show (false : Bool) = isI d from h3]
        exact k _ (Same.refl _)
      | true =>
        refine iteT ⟨_, rfl, x, _, _, _, b2, rfl, .ty _, D.ty, h2, b2, rfl, ?_⟩
        rw [show (!b2) = isI d by rw [← h3, Bool.true_and]]
        exact k _ (Same.refl _)
    cases d with
    | none => exact key false false (kit_ty (a := "NoneType") (by decide +kernel)) (kit_ty (a := "NoneType") (by decide +kernel)) rfl
    | bool b => exact key true true (kit_ty (a := "bool") (by decide +kernel)) (kit_ty (a := "bool") (by decide +kernel)) rfl
    | int i => exact key true false (kit_ty (a := "int") (by decide +kernel)) (kit_ty (a := "int") (by decide +kernel)) rfl
    | str x => exact key false false (kit_ty (a := "str") (by decide +kernel)) (kit_ty (a := "str") (by decide +kernel)) rfl
    | list x => exact key false false (kit_ty (a := "list") (by decide +kernel)) (kit_ty (a := "list") (by decide +kernel)) rfl
    | tuple x => exact key false false (kit_ty (a := "tuple") (by decide +kernel)) (kit_ty (a := "tuple") (by decide +kernel)) rfl
    | dict x => exact key false false (kit_ty (a := "dict") (by decide +kernel)) (kit_ty (a := "dict") (by decide +kernel)) rfl
theorem ok_sequence {f : Addr} {fd : FuncData} (A0 : Df K mg "is_sequence" s_is_sequence f fd P_is_sequence) (T : Txt mg) : FnOk P w K mg base CX0 1 f fd P_is_sequence (spT1 isS) := by
  refine A0.F.ok sc_is_sequence (fun vs H Q E h => ?_) (fun cdv A outer s H vs Q E hr h => ?_)
  · obtain ⟨x, d, rfl, _⟩ := h
    rfl
  · obtain ⟨x, d, rfl, D, k⟩ := h
    refine ⟨_, (pss_one (ps_ret (pe_callB call_isiT (by rfl) T.isinstance PyProof.Rows.boot_isinstance (pa_cons (pv 0) (pa_cons (pe_tup (pa_cons (pe_bltn (v := .ty "list") (by rfl) T.list (by decide +kernel) rfl) (pa_cons (pe_bltn (v := .ty "tuple") (by rfl) T.tuple (by decide +kernel) rfl) pa_nil))) pa_nil))))), ?_⟩
    have key : ∀ (b1 b2 : Bool), PySem.W.kitOne K (.type (tyD d)) (.type "list") = some b1 → PySem.W.kitOne K (.type (tyD d)) (.type "tuple") = some b2 → (b1 || b2) = isS d → tRet (tCB (rIsiT K) (tCons (tVar 0) (tCons (tTup (tCons (tC (.ty "list")) (tCons (tC (.ty "tuple")) tNil))) tNil))) { nx := fun _ H' => Q .non H', rt := Q } [some x] H := by
      intro b1 b2 h1 h2 h3
      refine ⟨_, rfl, by show 2 ≤ sizeLine; decide, fun p hp => ⟨x, p, _, _, [.type "list", .type "tuple"], (b1 || b2), rfl, upd_same, .cons (.ty _) (.cons (.ty _) .nil), (D.same (Same.new hp)).ty, ?_, ?_⟩⟩
      · refine kitAny_cons h1 (fun e => ?_) (fun e => by rw [e]; rfl)
        refine kitAny_cons h2 (fun e2 => by rw [e, e2]; exact kitAny_nil) (fun e2 => by rw [e2, Bool.or_true])
      · rw [h3]
        exact k _ (Same.new hp)
    cases d with
    | none => exact key false false (kit_ty (a := "NoneType") (by decide +kernel)) (kit_ty (a := "NoneType") (by decide +kernel)) rfl
    | bool b => exact key false false (kit_ty (a := "bool") (by decide +kernel)) (kit_ty (a := "bool") (by decide +kernel)) rfl
    | int i => exact key false false (kit_ty (a := "int") (by decide +kernel)) (kit_ty (a := "int") (by decide +kernel)) rfl
    | str x => exact key false false (kit_ty (a := "str") (by decide +kernel)) (kit_ty (a := "str") (by decide +kernel)) rfl
    | list x => exact key true false (kit_ty (a := "list") (by decide +kernel)) (kit_ty (a := "list") (by decide +kernel)) rfl
    | tuple x => exact key false true (kit_ty (a := "tuple") (by decide +kernel)) (kit_ty (a := "tuple") (by decide +kernel)) rfl
    | dict x => exact key false false (kit_ty (a := "dict") (by decide +kernel)) (kit_ty (a := "dict") (by decide +kernel)) rfl
end
end Lk

set_option Elab.async false
set_option maxRecDepth 100000
set_option maxHeartbeats 1000000
namespace Lk
open PySem L2
def isBV (n : Int) : V → Bool
  | .int i => decide (0 ≤ i) && decide (i < n)
  | _ => false
theorem Dv.isBV {H : Hp} {x : V} {d : PyData} {n : Int} (h : Dv H x d) : Lk.isBV n x = isB n d := by
  cases h <;> rfl
theorem DvAll.all {H : Hp} {n : Int} : ∀ {xs : List V} {ds : List PyData}, DvAll H xs ds → (xs.map (Lk.isBV n)).all id = ds.all (isB n)
  | _, _, .nil => rfl
  | _, _, .cons h t => by
    rw [List.map_cons, List.all_cons, List.all_cons, DvAll.all t, h.isBV]
    rfl
def spBelowS : Sp := fun vs H Q _ => ∃ (x : V) (d : PyData) (n : Int), vs = [x, .int n] ∧ Dv H x d ∧ ∀ H', Same H H' → Q (.bl (isB n d)) H'
section
variable {P : Program} {w : World} {K : PySem.W.Frag} {mg : Str → Option Value} {base : Heap}
theorem ok_number {f fi : Addr} {fd fdi : FuncData} (A0 : Df K mg "is_number" s_is_number f fd P_is_number) (d_is_integer : Df K mg "is_integer" s_is_integer fi fdi P_is_integer) (T : Txt mg) : FnOk P w K mg base CX0 2 f fd P_is_number (spT1 isN) := by
  have G_is_integer : FnOk P w K mg base CX0 1 fi fdi P_is_integer (spT1 isI) := ok_integer d_is_integer T
  refine A0.F.ok sc_is_number (fun vs H Q E h => ?_) (fun cdv A outer s H vs Q E hr h => ?_)
  · obtain ⟨x, d, rfl, _⟩ := h
    rfl
  · obtain ⟨x, d, rfl, D, k⟩ := h
    refine ⟨_, (pss_one (ps_ret (pe_and (pe_call G_is_integer (hr.mono (by decide)) rfl d_is_integer.g d_is_integer.F.kp d_is_integer.b .nil pass0 (pa_cons (pv 0) pa_nil)) (pe_one (pe_cmpR op_ge (pv 0) pe_int (nomark _)))))), ?_⟩
    refine ⟨_, rfl, x, d, rfl, D, fun H1 S1 => ⟨isI d, rfl, ?_⟩⟩
    cases D with
    | int i => exact iteT ⟨_, rfl, _, _, rfl, rfl, k _ S1⟩
    | non => exact iteF (k _ S1)
    | bl b => exact iteF (k _ S1)
    | str b => exact iteF (k _ S1)
    | lst _ _ => exact iteF (k _ S1)
    | tup _ _ => exact iteF (k _ S1)
    | dct _ => exact iteF (k _ S1)
theorem ok_below {f fi fn : Addr} {fd fdi fdn : FuncData} (A0 : Df K mg "is_below" s_is_below f fd P_is_below) (d_is_number : Df K mg "is_number" s_is_number fn fdn P_is_number) (d_is_integer : Df K mg "is_integer" s_is_integer fi fdi P_is_integer) (T : Txt mg) : FnOk P w K mg base CX0 3 f fd P_is_below spBelowS := by
  have G_is_number : FnOk P w K mg base CX0 2 fn fdn P_is_number (spT1 isN) := ok_number d_is_number d_is_integer T
  refine A0.F.ok sc_is_below (fun vs H Q E h => ?_) (fun cdv A outer s H vs Q E hr h => ?_)
  · obtain ⟨x, d, n, rfl, _⟩ := h
    rfl
  · obtain ⟨x, d, n, rfl, D, k⟩ := h
    refine ⟨_, (pss_one (ps_ret (pe_and (pe_call G_is_number (hr.mono (by decide)) rfl d_is_number.g d_is_number.F.kp d_is_number.b .nil pass0 (pa_cons (pv 0) pa_nil)) (pe_one (pe_cmpR op_lt (pv 0) (pv 1) (nomark _)))))), ?_⟩
    refine ⟨_, rfl, x, d, rfl, D, fun H1 S1 => ⟨isN d, rfl, ?_⟩⟩
    cases D with
    | int i =>
      show (if decide (0 ≤ i) = true then _ else _)
      have k' : Q (.bl (decide (0 ≤ i) && decide (i < n))) H1 := k H1 S1
      by_cases h0 : 0 ≤ i
      · rw [if_pos (decide_eq_true h0)]
        refine ⟨_, rfl, _, rfl, _, _, rfl, rfl, ?_⟩
        rw [decide_eq_true h0, Bool.true_and] at k'
        exact k'
      · rw [decide_eq_false h0] at k' ⊢
        exact iteF k'
    | non => exact iteF (k _ S1)
    | bl b => exact iteF (k _ S1)
    | str b => exact iteF (k _ S1)
    | lst _ _ => exact iteF (k _ S1)
    | tup _ _ => exact iteF (k _ S1)
    | dct _ => exact iteF (k _ S1)
theorem ok_are {f fi fn fb : Addr} {fd fdi fdn fdb : FuncData} (A0 : Df K mg "are_below" s_are_below f fd P_are_below) (d_is_below : Df K mg "is_below" s_is_below fb fdb P_is_below) (d_is_number : Df K mg "is_number" s_is_number fn fdn P_is_number) (d_is_integer : Df K mg "is_integer" s_is_integer fi fdi P_is_integer) (T : Txt mg) : FnOk P w K mg base CX0 4 f fd P_are_below spAre := by
  have G_is_below : FnOk P w K mg base CX0 3 fb fdb P_is_below spBelowS := ok_below d_is_below d_is_number d_is_integer T
  refine A0.F.ok sc_are_below (fun vs H Q E h => ?_) (fun cdv A outer s H vs Q E hr h => ?_)
  · obtain ⟨x, d, n, rfl, _⟩ := h
    rfl
  · obtain ⟨x, d, n, rfl, D, hS, hl, k⟩ := h
    have fin : ∀ (xs : List V) (ds : List PyData) (H' : Hp) (q : Addr), DvAll H xs ds → itemsD d = ds → Same H H' → H' q = some (.lst (xs.map fun x => V.bl (isBV n x))) → rAll K [.ref q] H' Q := fun xs ds H' q h1 h2 h3 h4 => by
      refine ⟨q, xs.map (isBV n), rfl, SqL.of ?_, ?_⟩
      · rw [h4, List.map_map]
        rfl
      · rw [h1.all, ← h2]
        exact k _ h3
    have el : ∀ (xs : List V) (ds : List PyData) (y : V) (H2 : Hp) (Q2 : VK) (x0 : V), DvAll H xs ds → y ∈ xs → Same H H2 → (∀ H4, Same H2 H4 → Q2 (V.bl (isBV n y)) H4) → tCall spBelowS [] E0 (tCons (tVar 2) (tCons (tVar 1) tNil)) [some x0, some (.int n), some y] H2 Q2 := fun xs ds y H2 Q2 x0 h1 h2 h3 h4 => by
      obtain ⟨i, hi⟩ := List.getElem?_of_mem h2
      obtain ⟨e, _, De⟩ := h1.get hi
      refine ⟨_, rfl, _, rfl, y, e, n, rfl, De.same h3, fun H3 S3 => ?_⟩
      rw [← De.isBV]
      exact h4 _ S3
    cases D with
    | @lst a xs ds ha hx =>
      refine ⟨_, (pss_one (ps_ret (pe_callB (cr_all rfl) (by rfl) T.all PyProof.Rows.boot_all (pa_cons (pe_lc (own := [("value", 2)]) (g := gName 2) (tt := tYes) rfl sc_are_below.nd (pi_list (pv 0)) (blkOk_by (N := N_are_below) (sc := defScope s_are_below) (by decide +kernel)) (fun _ _ _ _ _ => (pg_name (i := 2) sc_are_below.nd rfl (Or.inl rfl))) (fun _ _ _ _ _ => pts_nil) (fun _ _ _ _ _ => (pe_call G_is_below (hr.mono (by decide)) rfl d_is_below.g d_is_below.F.kp d_is_below.b .nil pass0 (pa_cons (pv 2) (pa_cons (pv 1) pa_nil))))) pa_nil)))), ?_⟩
      refine ⟨_, rfl, a, rfl, ⟨_, SqL.of ha⟩, fun q hq => ?_⟩
      refine lcPL (K := K) (fun x => V.bl (isBV n x)) hq (by rw [hx.len]; exact Nat.le_trans hl (by decide)) (SqL.of ha) (fun y hy H2 S2 Q2 kQ => el xs ds y H2 Q2 _ hx hy S2 kQ) (fun H2 e2 S2 => fin xs ds H2 q hx rfl S2 e2)
    | @tup a xs ds ha hx =>
      refine ⟨_, (pss_one (ps_ret (pe_callB (cr_all rfl) (by rfl) T.all PyProof.Rows.boot_all (pa_cons (pe_lc (own := [("value", 2)]) (g := gName 2) (tt := tYes) rfl sc_are_below.nd (pi_tup (pv 0)) (blkOk_by (N := N_are_below) (sc := defScope s_are_below) (by decide +kernel)) (fun _ _ _ _ _ => (pg_name (i := 2) sc_are_below.nd rfl (Or.inl rfl))) (fun _ _ _ _ _ => pts_nil) (fun _ _ _ _ _ => (pe_call G_is_below (hr.mono (by decide)) rfl d_is_below.g d_is_below.F.kp d_is_below.b .nil pass0 (pa_cons (pv 2) (pa_cons (pv 1) pa_nil))))) pa_nil)))), ?_⟩
      refine ⟨_, rfl, a, rfl, ⟨_, SqT.of ha⟩, fun q hq => ?_⟩
      refine lcPT (K := K) (fun x => V.bl (isBV n x)) hq (by rw [hx.len]; exact Nat.le_trans hl (by decide)) (SqT.of ha) (fun y hy H2 S2 Q2 kQ => el xs ds y H2 Q2 _ hx hy S2 kQ) (fun H2 e2 S2 => fin xs ds H2 q hx rfl S2 e2)
    | non => cases hS
    | bl b => cases hS
    | int i => cases hS
    | str z => cases hS
    | dct _ => cases hS
theorem ok_entry {f fi fn fb fs fr : Addr} {fd fdi fdn fdb fds fdr : FuncData} (A0 : Df K mg "_is_entry" s_is_entry f fd P_is_entry) (d_is_sequence : Df K mg "is_sequence" s_is_sequence fs fds P_is_sequence) (d_are_below : Df K mg "are_below" s_are_below fr fdr P_are_below) (d_is_below : Df K mg "is_below" s_is_below fb fdb P_is_below) (d_is_number : Df K mg "is_number" s_is_number fn fdn P_is_number) (d_is_integer : Df K mg "is_integer" s_is_integer fi fdi P_is_integer) (T : Txt mg) : FnOk P w K mg base CX0 5 f fd P_is_entry spEntry := by
  have G_is_sequence : FnOk P w K mg base CX0 1 fs fds P_is_sequence (spT1 isS) := ok_sequence d_is_sequence T
  have G_are_below : FnOk P w K mg base CX0 4 fr fdr P_are_below spAre := ok_are d_are_below d_is_below d_is_number d_is_integer T
  refine A0.F.ok sc_is_entry (fun vs H Q E h => ?_) (fun cdv A outer s H vs Q E hr h => ?_)
  · obtain ⟨x, d, A, n, rfl, _⟩ := h
    rfl
  · obtain ⟨x, d, A, n, rfl, D, hl, k⟩ := h
    refine ⟨_, (pss_one (ps_ret (pe_and (pe_call G_is_sequence (hr.mono (by decide)) rfl d_is_sequence.g d_is_sequence.F.kp d_is_sequence.b .nil pass0 (pa_cons (pv 0) pa_nil)) (pe_and (pe_cmpR op_eq (pe_callB call_len_seq (by rfl) T.len PySem.boot_len (pa_cons (pv 0) pa_nil)) (pv 1) (nomark _)) (pe_one (pe_call G_are_below (hr.mono (by decide)) rfl d_are_below.g d_are_below.F.kp d_are_below.b .nil pass0 (pa_cons (pv 0) (pa_cons (pv 2) pa_nil)))))))), ?_⟩
    refine ⟨_, rfl, x, d, rfl, D, fun H1 S1 => ⟨isS d, rfl, ?_⟩⟩
    have D1 := D.same S1
    have main : ∀ (a : Addr) (xs : List V) (ds : List PyData), x = .ref a → (SqL K H1 a xs ∨ SqT K H1 a xs) → itemsD d = ds → xs.length = ds.length → isS d = true →
        tAndV (tOp rEq (tCB (rLn K) (tCons (tVar 0) tNil)) (tVar 1)) (tCall spAre [] E0 (tCons (tVar 0) (tCons (tVar 2) tNil))) [some x, some (.int A), some (.int n)] H1 Q := by
      intro a xs ds ex hx hi hle hs
      refine ⟨_, rfl, a, xs, by rw [ex], hx, _, rfl, rfl, _, rfl, ?_⟩
      have e : (decide (V.int ((xs.length : Nat) : Int) = V.int A)) = decide ((ds.length : Int) = A) := by
        rw [hle]
        by_cases q : (ds.length : Int) = A
        · rw [decide_eq_true q, q]
          exact decide_eq_true rfl
        · rw [decide_eq_false q]
          exact decide_eq_false fun z => q (by injection z)
      show (if decide (V.int ((xs.length : Nat) : Int) = V.int A) = true then _ else _)
      rw [e]
      have kk : ∀ H', Same H1 H' → Q (.bl (decide ((ds.length : Int) = A) && ds.all (isB n))) H' := fun H' S' => by
        have z := k H' (S1.trans S')
        unfold isE at z
        rw [hs, Bool.true_and, hi] at z
        exact z
      by_cases q : (ds.length : Int) = A
      · rw [decide_eq_true q] at kk ⊢
        refine iteT ⟨_, rfl, _, rfl, x, d, n, rfl, D1, hs, hl, fun H2 S2 => ?_⟩
        rw [hi]
        have z := kk H2 S2
        rw [Bool.true_and] at z
        exact z
      · rw [decide_eq_false q] at kk ⊢
        exact iteF (kk H1 (Same.refl _))
    cases D1 with
    | @lst a xs ds ha hx => exact iteT (main a xs ds rfl (.inl (SqL.of ha)) rfl hx.len rfl)
    | @tup a xs ds ha hx => exact iteT (main a xs ds rfl (.inr (SqT.of ha)) rfl hx.len rfl)
    | non => exact iteF (k _ S1)
    | bl b => exact iteF (k _ S1)
    | int i => exact iteF (k _ S1)
    | str z => exact iteF (k _ S1)
    | dct _ => exact iteF (k _ S1)
end
end Lk

set_option Elab.async false
set_option linter.all false
set_option maxRecDepth 100000
set_option maxHeartbeats 2000000
namespace PySem
namespace ErrX
open PySem.W PySem.Calls PyProof.Rows PySem.HandSPX
/-! ### the text of __init__ -/
def iA (p1 p2 : Pos) : Arguments := { posonlyargs := [], args := [{ arg := "self", annotation := none, pos := p1 }, { arg := "at", annotation := none, pos := p2 }], vararg := none, kwonlyargs := [], kw_defaults := [], kwarg := none, defaults := [] }
def iB (q1 q2 q3 q4 : Pos) : List Stmt := [.Assign [.Attribute (.Name "self" q1) "at" q2] (.Name "at" q3) q4]
def iS : Scope := { kind := .function, names := [(PySem.Str.ofString "self", .local), (PySem.Str.ofString "at", .local)], isGenerator := false, isCoroutine := false, more := [] }
/-- what the written part says of Low, at C, and of its __init__, at fI -/
structure ErrTxt (K : Frag) (mg : Str → Option Value) (cn : Str) (qn : Str) (C fI : Addr) : Prop where
  gC : mg cn = some (.ref C)
  cls : ∃ nm q N bs bm sn sub ab col dd k0 k1 k2 k3 k5, K.lookup C = some (excClassObj nm q C N bs bm true sn sub ab col dd k0 k1 k2 k3 k5 "ValueError.__new__") ∧ refsVE bm = true
  sa : findIn K (.ref C) "__setattr__" = some (some (.builtin "object.__setattr__"))
  ga : findIn K (.ref C) "__getattribute__" = some (some (.builtin "BaseException.__getattribute__"))
  gg : findIn K (.ref C) "__getattr__" = some none
  noN : findIn K (.ref C) "at" = some none
  iC : findIn K (.ref C) "__init__" = some (some (.ref fI))
  tC : typeIn K (.ref fI) = some (.type "function")
  kC : keepIn K (.ref C) = true
  exC : subIn K (.ref C) (.type "BaseException") = some true
  tyC : typeIn K (.ref C) = some (.type "type")
  hdC : hasDictIn K C = true
  te : exmOne K (.ref C) (.ref C) = some true
  fn : ∃ (oc : Value) (od : Option Addr) (doc pm : Value) (an : Option Addr) (cdv ct : Value) (osl : Array (Option Value)) (p1 p2 q1 q2 q3 q4 : Pos),
    K.lookup fI = some ⟨oc, od, .func (fnOf "__init__" qn (iA p1 p2) (iB q1 q2 q3 q4) iS .none .none doc pm an cdv ct), osl⟩ ∧ codeIn K cdv qn = true
theorem one_size (v : Value) : [v].length ≤ sizeLine := by
  rw [sizeLine_eq]
  exact (by decide : 1 ≤ 16777216)
theorem kept_but {K : Frag} {h h' : Heap} {x : Addr} (X : K.In h) (hx : K.lookup x = none) (k : ∀ b o, b ≠ x → h.get? b = some o → h'.get? b = some o) : K.In h' := fun a o e =>
  k a o (fun z => by rw [z, hx] at e; cases e) (X a o e)
theorem ldC {M : Model} {s : Shared} {name : Str} {scope : Scope} {L a : Addr} {cd : Value} {m : Str → Option Value} {x : Str} {pos : Pos} {v : Value} {Q : Value → Shared → Prop} {A : Around} {E : Value → Shared → Prop} (hn : s.heap.Ns L m) (hv : m x = some v) (h : Q v s)
    (hk : scope.kind = .function := by rfl) (hl : (envOfC name scope L a cd).kindOf x = some .local := by rfl) (hd : (x == ("__debug__" : Str)) = false := by decide) :
    wpAny M A (eval (.Name x pos) (envOfC name scope L a cd)) Q E s := wpAny_Name (wpAny_loadName_local hk hl hn hv h) hd
/-- what __init__ leaves of a fresh exception at x -/
structure InitEnd (h h' : Heap) (x C dx t1 : Addr) (v : Value) : Prop where
  keep : ∀ b o, b ≠ x → h.get? b = some o → h'.get? b = some o
  obj : h'.get? x = some { cls := .ref C, dict := some dx, data := .fields #[.ref t1, .none, .none, .none, .bool false, .none] }
  dbig : h.objs.size ≤ dx
  dne : dx ≠ x
  ns : h'.Ns1 dx (fun y => if y = "at" then some v else none)
/-- a made Low -/
structure OwnMade (h h' : Heap) (e C d : Addr) (v : Value) : Prop where
  keep : ∀ b o, h.get? b = some o → h'.get? b = some o
  new : h.objs.size ≤ e
  obj : ∃ oe vs, h'.get? e = some oe ∧ oe.cls = .ref C ∧ oe.dict = some d ∧ oe.data = .fields vs ∧ vs[1]? = some .none
  dbig : h.objs.size ≤ d
  dne : d ≠ e
  ns : h'.Ns1 d (fun y => if y = "at" then some v else none)
section
variable {prog : Program} {w : World} {A : Around} {E : Value → Shared → Prop} {R : Result → Shared → Prop} {s : Shared} {K : Frag} {mg : Str → Option Value} {C fI : Addr} {cn qn : Str}
theorem low_init (T : ErrTxt K mg cn qn C fI) {x t0 : Addr} {v : Value} (X : K.In s.heap) (hlim : s.heap.NoLimit) (hx : s.heap.get? x = some (excO C t0)) (hnx : K.lookup x = none) (hroom : A.depth < recursionLimit)
    (hq : ∀ h' tk dx, InitEnd s.heap h' x C dx t0 v → R (.ok (.ret .none)) { s with heap := h', toks := tk }) :
    codeAny (model prog w) A (.call (.ref fI) ⟨[.ref x, v], []⟩) R s := by
  obtain ⟨oc, od, doc, pm, an, cdv, ct, osl, p1, p2, q1, q2, q3, q4, ho, hcd⟩ := T.fn
  obtain ⟨nm, q, N, bs, bm, sn, sub, ab, col, dd, k0, k1, k2, k3, k5, hC, hbm⟩ := T.cls
  have hcl : clsIn K C = some { name := nm, bases := bs, mro := .ref C :: bm, ns := N, qualname := q, hasDict := true, slotNames := sn, subclasses := sub, abstract := ab, collection := col, hasDel := false } := by unfold clsIn; rw [hC] <;> rfl
  refine Att.call_fn (binds := [("self", .ref x), ("at", v)]) X hlim ho hcd hroom (BindsTo.of_eq (by first | rfl | with_unfolding_all rfl)) (by first | rfl | decide | with_unfolding_all rfl) (fun s₁ IC => ?_) rfl rfl rfl
  obtain ⟨h₁, tk₁, rfl⟩ := IC.toInCall.same
  have k : ∀ b o, s.heap.get? b = some o → h₁.get? b = some o := IC.toInCall.keep
  have hn := IC.toInCall.ns
  have hxL : s.heap.objs.size ≠ x := Nat.ne_of_gt (Heap.lt_size hx)
  have X₁ : K.In h₁ := X.keeps k
  have hx₁ := k _ _ hx
  -- self.by = by
  show wpAny _ _ (execs _ _) _ _ _
  refine wpAny_execs_cons (plainObj_wpAny_Assign_Attribute ?_)
  refine ldC (v := v) hn (by first | rfl | with_unfolding_all rfl | kernel_rfl) (ldC (v := .ref x) hn (by first | rfl | with_unfolding_all rfl | kernel_rfl) ?_)
  refine set_plain X₁ (ox := excO C t0) (od := none) ⟨hx₁, rfl, rfl, trivial⟩ T.sa ?_
  refine exc_osa X₁ hx₁ hcl (show refsVE (.ref C :: bm) = true from hbm) rfl T.noN (fun h₃ tk₃ dx k₃ dn dne hx₃ hn₃ => ?_)
  show wpAny _ _ (execs _ _) _ _ _
  have z : s.heap.objs.size < h₁.objs.size := hn.lt
  exact wpAny_execs_nil (hq h₃ tk₃ dx ⟨fun b o hb e => k₃ b o hb (k b o e), hx₃, Nat.le_of_lt (Nat.lt_of_lt_of_le z dn), dne, hn₃⟩)
theorem low_made (T : ErrTxt K mg cn qn C fI) {v : Value} (X : K.In s.heap) (hlim : s.heap.NoLimit) (hroom : A.depth + 1 < recursionLimit)
    (hq : ∀ h' tk e d, OwnMade s.heap h' e C d v → R (.ok (.ret (.ref e))) { s with heap := h', toks := tk }) :
    codeAny (model prog w) A (.call (.ref C) ⟨[v], []⟩) R s := by
  obtain ⟨nm, q, N, bs, bm, sn, sub, ab, col, dd, k0, k1, k2, k3, k5, hC, hbm⟩ := T.cls
  obtain ⟨hp, g, dr, tk, os⟩ := s
  have k : ∀ b o, hp.get? b = some o → ((hp.push (kdv_tup [v])).push (excO C hp.objs.size)).get? b = some o := fun b o e => Heap.get?_push_of_some _ (Heap.get?_push_of_some _ e)
  have hget : ((hp.push (kdv_tup [v])).push (excO C hp.objs.size)).get? (hp.objs.size + 1) = some (excO C hp.objs.size) := by heap_get
  have hnx : K.lookup (hp.objs.size + 1) = none := by
    cases e : K.lookup (hp.objs.size + 1) with
    | none => rfl
    | some o =>
      have z : hp.get? (hp.objs.size + 1) = some o := X _ _ e
      exact absurd (Nat.lt_of_succ_lt (Heap.lt_size z)) (Nat.lt_irrefl _)
  refine call_own F.excBase_ValueError (fun X => refsVE_contains X bm hbm) (X _ _ hC) (looks_findIn X T.iC) (fun self => bind_fn X self T.tC) (one_size v) ?_
  refine low_init (s := ⟨(hp.push (kdv_tup [v])).push (excO C hp.objs.size), g, dr, tk, os⟩) T (X.keeps k) (hlim.keeps k) hget hnx ?_ fun h' tk' dx ⟨k', hx, dn, dne, hns⟩ => ?_
  · show A.depth + 1 < recursionLimit
    exact hroom
  · have old : ∀ b o, hp.get? b = some o → h'.get? b = some o := fun b o e => k' b o (Nat.ne_of_lt (Nat.lt_succ_of_lt (Heap.lt_size e))) (k b o e)
    have z : hp.objs.size + 1 + 1 ≤ dx := by
      first
        | (simpa only [Heap.size_push] using dn)
        | exact dn
        | (have q := dn; rw [Heap.size_push, Heap.size_push] at q; exact q)
    exact ⟨rfl, hq h' tk' (hp.objs.size + 1) dx ⟨old, Nat.le_succ _, ⟨_, _, hx, rfl, rfl, rfl, rfl⟩, Nat.le_trans (Nat.le_trans (Nat.le_succ _) (Nat.le_succ _)) z, dne, hns⟩⟩
end
end ErrX
end PySem
namespace L2
open PySem PySem.Spec PyProof.Rows
theorem relO_low {v : V} {v' : Value} (r : RelV v v') (f : Str) : RelO (List.lookup f [(("at" : Str), v)]) (if f = "at" then some v' else none) := by
  by_cases hw : f = "at"
  · subst hw
    rw [if_pos rfl]
    have q : List.lookup ("at" : Str) [(("at" : Str), v)] = some v := by simp [List.lookup]
    rw [q]
    exact r
  · rw [if_neg hw]
    have qw : (f == ("at" : Str)) = false := by simpa using hw
    have q2 : List.lookup f [(("at" : Str), v)] = none := by simp [List.lookup, qw]
    rw [q2]
    trivial
section
variable {X : Cx} {C fI : Addr} {cn qn : Str}
/-- Low(e) -/
def tMkLow (C : Addr) (ta : TA) : St → Hp → XK → Prop := fun σ H Q => ta σ H fun vs H1 => ∃ v, vs = [v] ∧ ∀ d, H1 d = none → Q (.ref C) (some d) (upd H1 d (.xd [(("at" : Str), v)]))
theorem pmk_low {a : Expr} {ta : TA} {p pos : Pos} {k : Nat} (T : PySem.ErrX.ErrTxt X.K X.mg cn qn C fI) (hr : Room k X.A) (ha : PA X [a] ta) (hg : Gl X cn) (hdb : (cn == ("__debug__" : Str)) = false := by decide)
    (he : starEach (a :: []) X.env = (false, eval a X.env) :: starEach [] X.env := by rfl) (hpl : (backTo pos (starEach [] X.env)).any (·.1) = false := by rfl) :
    PMk X (.Call (.Name cn p) [a] [] pos) (tMkLow C ta) := by
  intro pins s σ H Q I h
  refine wpAny_Call_Name_kw (ld_glob I hg T.gC ?_ hdb)
  refine PySem.W.callWith_K (h₀ := X.base) I.ok.mod.kin T.kC (thn (ha.run pos pins s σ H _ I h) fun us s1 hh => ?_) he hpl
  obtain ⟨vs, H1, I1, r1, v, ev, q1⟩ := hh
  subst ev
  refine ⟨I1.kIn, ?_⟩
  cases r1 with
  | cons rv rn =>
    rename_i v' us'
    cases rn
    show wpAny _ _ (call (.ref C) [v']) _ _ _
    have hlim := I1.nolimit
    obtain ⟨hp, g, dr, tk, os⟩ := s1
    refine wpAny_call (PySem.ErrX.low_made T I1.kIn hlim (by have := hr.dp; omega) fun h' tk' e d M => ?_)
    show MkP X pins σ Q (.ref e) ⟨h', g, dr, tk', os⟩
    obtain ⟨oe, fv, hoe, hc, hd, hdat, h1⟩ := M.obj
    have hns := M.ns
    obtain ⟨G', g1, g2⟩ := restrict h' fun b => decide (b ≠ e)
    have gk : ∀ b, b ≠ e → G'.get? b = h'.get? b := fun b hb => g1 b (decide_eq_true hb)
    have ge : G'.get? e = none := g2 e (by simp)
    have old : ∀ b o, hp.get? b = some o → G'.get? b = some o := fun b o q => (gk b (Nat.ne_of_lt (Nat.lt_of_lt_of_le (Heap.lt_size q) M.new))).trans (M.keep b o q)
    have ob : ObjOk X.prog X.w (upd H1 d (.xd [(("at" : Str), v)])) G' d (.xd [(("at" : Str), v)]) :=
      ⟨_, hns.at (fun o q => (gk d M.dne).trans q), fun f => relO_low rv f⟩
    have J : Inv X pins σ (upd H1 d (.xd [(("at" : Str), v)])) ⟨G', g, dr, tk', os⟩ := I1.laid (t' := tk') old M.dbig ob
    refine ⟨e, oe, fv, ⟨G', g, dr, tk', os⟩, _, .ref C, some d, rfl, J, fun b o q => ?_, ge, hoe, ⟨hc, hd⟩, hdat, h1, ?_, rfl, I1.bare, raises_own T.exC T.tyC, q1 d (I1.hok.fresh M.dbig)⟩
    · by_cases hb : b = e
      · have q' : G'.get? b = some o := q
        rw [hb, ge] at q'; cases q'
      · exact (gk b hb).symm.trans q
    · rw [upd_ne (Ne.symm M.dne)]
      exact I1.hok.fresh M.new
/-- raise Low(e) -/
def tRaiseLow (C : Addr) (W : WX) (ta : TA) : TS := fun _ σ H => tMkLow C ta σ H fun cls d H' => W cls d σ H'
theorem ps_raiseLow {a : Expr} {ta : TA} {W : WX} {p pos pos2 : Pos} {k : Nat} (hc : X.calm = true) (T : PySem.ErrX.ErrTxt X.K X.mg cn qn C fI) (hr : Room k X.A) (tk : Takes X W) (ha : PA X [a] ta) (hg : Gl X cn) (hdb : (cn == ("__debug__" : Str)) = false := by decide)
    (he : starEach (a :: []) X.env = (false, eval a X.env) :: starEach [] X.env := by rfl) (hpl : (backTo pos (starEach [] X.env)).any (·.1) = false := by rfl) :
    PS X (.Raise (some (.Call (.Name cn p) [a] [] pos)) none pos2) (tRaiseLow C W ta) := ps_raise hc tk (pmk_low T hr ha hg hdb he hpl)
/-- low.by, low the exception that the suite holds (at a; its class cls, its dict d) -/
def tByLow (C : Addr) (a : Addr) (cls : Value) (d : Option Addr) (te : TE) : TE := fun σ H Q => te σ H fun x H1 => x = .ref a ∧ cls = .ref C ∧ ∃ (dd : Addr) (v : V), d = some dd ∧ H1 dd = some (.xd [(("at" : Str), v)]) ∧ Q v H1
theorem pe_byLow {a : Addr} {oe : Obj} {cls : Value} {d : Option Addr} {pn : List (Addr × Obj)} {e : Expr} {te : TE} {pos : Pos} (T : PySem.ErrX.ErrTxt X.K X.mg cn qn C fI) (hz : Zc cls d oe) (hf : ∃ vs, oe.data = .fields vs) (he : PE (X.suite a ((a, oe) :: pn)) e te)
    (hb : attributeBase e "at" X.env (eval e X.env) = eval e X.env := by rfl) :
    PE (X.suite a ((a, oe) :: pn)) (.Attribute e "at" pos) (tByLow C a cls d te) := by
  refine ⟨fun pins s σ H Q I h => ?_⟩
  refine attr_of hb (thn (he.run pins s σ H _ I h) fun u s1 hh => ?_)
  obtain ⟨x, H1, I1, rx, ex, ec, dd, v, ed, ea, q⟩ := hh
  subst ex
  obtain rfl : u = Value.ref a := rx
  subst ec
  subst ed
  obtain ⟨ha, _⟩ := I1.pin (a, oe) (List.mem_append_left _ List.mem_cons_self)
  obtain ⟨vs, hd⟩ := hf
  have hx : ObjOk X.prog X.w H1 s1.heap dd (.xd [(("at" : Str), v)]) := I1.hok dd _ ea
  obtain ⟨mA, hns, hr⟩ := hx
  obtain ⟨od, ho, hl⟩ := lookIn_ns hns
  have l : List.lookup ("at" : Str) [(("at" : Str), v)] = some v := by simp [List.lookup]
  obtain ⟨u, hu, ru⟩ := RelO.some_of (v := v) (o := mA "at") (by rw [← l]; exact hr "at")
  have J : PySem.W.InstAt s1.heap a oe C (some od) := ⟨ha, hz.1, by unfold PySem.W.notCls; rw [hd] <;> rfl, by rw [hz.2]; exact ho⟩
  exact HandSPX.exc_get I1.kIn J T.ga T.gg T.exC (PySem.W.findObj_own T.hdC T.noN rfl (by rw [hl, hu])) (handed_of ru) ⟨v, H1, I1.tok _, ru, q⟩
end
end L2


set_option Elab.async false
set_option linter.all false
set_option maxRecDepth 100000
set_option maxHeartbeats 4000000
namespace Lk
open PySem L2
abbrev s_Machine___init : Stmt := inClass (top 13) 0
abbrev N_Machine___init : List Str := ["self", "commands", "steps", "state", "entry"]
abbrev P_Machine___init : List Str := ["self", "commands", "steps"]
theorem sc_Machine___init : FnScope N_Machine___init P_Machine___init (defScope s_Machine___init) := ⟨rfl, rfl, rfl, by decide +kernel, rfl, by decide +kernel, by decide +kernel⟩
section
variable {K : PySem.W.Frag} {j : Nat} {te : TE} {σ : St} {H1 : Hp} {D : Addr} {Qd : Hp → Prop}
theorem lcTT {a : Addr} {xs : List V} (S : Addr → Prop) (I : Hp → Prop) (f : Nat → V → Hp → Prop) (hD : H1 D = none) (hS : ¬ S D) (hn : xs.length ≤ 1000000) (hI : I H1) (mI : ∀ H o, I H → I (upd H D o))
    (mf : ∀ i y H H', KP (fun a => S a ∨ a = D) H H' → f i y H → f i y H') (ha : ∀ H, KP S H1 H → SqT K H a xs)
    (hs : ∀ i x H acc, xs[i]? = some x → I H → KP S H1 H → H D = some (.lst acc) → ∀ Q : VK, (∀ y H4, I H4 → KP S H H4 → f i y H4 → Q y H4) → te ((wipe σ [j]).set j (some x)) H Q)
    (hd : ∀ ys H', ys.length = xs.length → (∀ i y, ys[i]? = some y → f i y H') → H' D = some (.lst ys) → I H' → KP S H1 H' → Qd H') :
    ∃ W : Nat → Nat → Hp → Prop, (∃ m, W 0 m (upd H1 D (.lst []))) ∧ ∀ i m H, W i m H →
      ((Itt K a).stop i H ∧ Qd H) ∨ ((Itt K a).go i H ∧ ∃ Nx : Hp → Prop, (∀ H', Nx H' → ∃ m', m' < m ∧ W (i + 1) m' H') ∧ ∀ x H', (Itt K a).yld i H x H' → gName j x (wipe σ [j]) H' fun σ2 H2 => wipe σ2 [j] = wipe σ [j] ∧ tYes σ2 H2 fun b H3 =>
        if b = true then te σ2 H3 fun y H4 => ∃ acc, H4 D = some (.lst acc) ∧ acc.length < sizeLine ∧ Nx (upd H4 D (.lst (acc ++ [y]))) else Nx H3) := by
  refine lc_tup (xs := xs) (Lcp S I f H1 D) (Lcp.zero hD mI hI) (fun i H _ x => ha H x.2.1) (fun i x0 H hi x => ?_) (fun H x => ?_)
  · have hi' : i < xs.length := (List.getElem?_eq_some_iff.mp hi).1
    refine ⟨wipe1 _ _ _, iteT (B := Lcp S I f H1 D (i + 1) H) ?_⟩
    obtain ⟨acc, e⟩ : ∃ acc, H D = some (.lst acc) := by
      obtain ⟨_, _, ys, e, _⟩ := x
      exact ⟨ys, e⟩
    exact hs i x0 H acc hi x.1 x.2.1 e _ fun y H4 h1 h2 h3 => x.step hD hS mI mf (by omega) h1 h2 h3
  · obtain ⟨h1, h2, ys, e, hl, hf⟩ := x
    exact hd ys H hl hf e h1 h2
end
/-! ### a machine's making, as data -/
def badC : PyData → Bool
  | .int i => decide (i ≤ 0)
  | _ => true
def badAt (A n : Int) : List PyData → Nat → Option Nat
  | [], _ => none
  | e :: r, i => if isE A n e = true then badAt A n r (i + 1) else some i
/-- the number of the refusal, if the commands are right -/
def stepsRes (A : Int) (d : PyData) : Option Int :=
  if isS d = false ∨ itemsD d = [] then some 1 else (badAt A ((itemsD d).length : Int) (itemsD d) 0).map fun i => 2 + (i : Int)
def intD : PyData → Int
  | .int i => i
  | _ => 0
def rowD (e : PyData) : List Int := (itemsD e).map intD
theorem badAt_cons {A n : Int} {e : PyData} {r : List PyData} {i : Nat} : badAt A n (e :: r) i = if isE A n e = true then badAt A n r (i + 1) else some i := rfl
theorem badAt_none {A n : Int} : ∀ {ds : List PyData} {i : Nat}, badAt A n ds i = none → ∀ e ∈ ds, isE A n e = true
  | [], _, _, e, h => nomatch h
  | d :: ds, i, h, e, he => by
    unfold badAt at h
    by_cases hE : isE A n d = true
    · rw [if_pos hE] at h
      rcases List.mem_cons.mp he with z | z
      · rw [z]
        exact hE
      · exact badAt_none h e z
    · rw [if_neg hE] at h
      cases h
theorem drop_get {α : Type} : ∀ {xs : List α} {i : Nat} {x : α}, xs[i]? = some x → xs.drop i = x :: xs.drop (i + 1)
  | [], _, _, h => by simp at h
  | y :: xs, 0, x, h => by
    have e : y = x := Option.some.inj h
    rw [e]
    rfl
  | y :: xs, i + 1, x, h => drop_get (xs := xs) (i := i) h
theorem DvAll.ints {H : Hp} {n : Int} : ∀ {xs : List V} {ds : List PyData}, DvAll H xs ds → ds.all (isB n) = true → xs = (ds.map intD).map V.int
  | _, _, .nil, _ => rfl
  | _, _, .cons (d := d) h t, e => by
    rw [List.all_cons, Bool.and_eq_true] at e
    rw [DvAll.ints t e.2]
    cases h with
    | int i => rfl
    | non => cases e.1
    | bl b => cases e.1
    | str b => cases e.1
    | lst _ _ => cases e.1
    | tup _ _ => cases e.1
    | dct _ => cases e.1
theorem entry_read {H : Hp} {y : V} {e : PyData} {A n : Int} (h : Dv H y e) (hE : isE A n e = true) : ∃ (b : Addr) (zs : Unit), y = .ref b ∧ (H b = some (.lst ((rowD e).map V.int)) ∨ H b = some (.tup ((rowD e).map V.int))) := by
  unfold isE at hE
  rw [Bool.and_eq_true, Bool.and_eq_true] at hE
  obtain ⟨h1, _, h3⟩ := hE
  cases h with
  | @lst b xs ds hb hx => exact ⟨b, (), rfl, .inl (by rw [hb, hx.ints h3] <;> rfl)⟩
  | @tup b xs ds hb hx => exact ⟨b, (), rfl, .inr (by rw [hb, hx.ints h3] <;> rfl)⟩
  | non => cases h1
  | int _ => cases h1
  | bl b => cases h1
  | str b => cases h1
  | dct _ => cases h1
/-! ### machines in the heap -/
def fldM (A n : Int) (t : Addr) : List (Str × V) := putF "steps" (.ref t) (putF "states" (.int n) (putF "commands" (.int A) []))
/-- at m a machine of the class at C with A commands and these rows -/
def MachAt (C : Addr) (H : Hp) (m : Addr) (A : Int) (us : List (Addr × List Int)) : Prop :=
  ∃ dx t, H m = some (.ins C dx (fldM A (us.length : Int) t)) ∧ H t = some (.tup (us.map fun u => V.ref u.1)) ∧ ∀ u ∈ us, H u.1 = some (.tup (u.2.map V.int))
/-- what the top says of the class -/
structure TxC (K : PySem.W.Frag) (C : Addr) : Prop where
  cl : Cls K C
  n1 : NoAttr K C "commands"
  n2 : NoAttr K C "states"
  n3 : NoAttr K C "steps"
def spInit (CM CE : Addr) : Sp := fun vs H Q E => ∃ (m dx : Addr) (x y : V) (dc ds : PyData), vs = [.ref m, x, y] ∧ H m = some (.ins CM dx []) ∧ Dv H x dc ∧ Dv H y ds ∧ (itemsD ds).length ≤ 1000 ∧ (∀ e ∈ itemsD ds, (itemsD e).length ≤ 1000) ∧
  (badC dc = true → ∀ H' d, Same H H' → H' d = none → E (.ref CE) (some d) (upd H' d (.xd [(("at" : Str), .int 0)]))) ∧
  (badC dc = false → ∀ A, dc = .int A → match stepsRes A ds with
    | some k => ∀ H' d, Same H H' → H' d = none → E (.ref CE) (some d) (upd H' d (.xd [(("at" : Str), .int k)]))
    | none => ∀ H' us, KP (fun b => b = m) H H' → MachAt CM H' m A us → us.map (·.2) = (itemsD ds).map rowD → Q .non H')
section
variable {P : Program} {w : World} {K : PySem.W.Frag} {mg : Str → Option Value} {base : Heap}
theorem ok_init {f fi fn fb fs fr fe CM CE fCE : Addr} {fd fdi fdn fdb fds fdr fde : FuncData} (F : Fun K "__init__" "Machine.__init__" s_Machine___init f fd) (d_is_entry : Df K mg "_is_entry" s_is_entry fe fde P_is_entry) (d_is_sequence : Df K mg "is_sequence" s_is_sequence fs fds P_is_sequence) (d_are_below : Df K mg "are_below" s_are_below fr fdr P_are_below) (d_is_below : Df K mg "is_below" s_is_below fb fdb P_is_below) (d_is_number : Df K mg "is_number" s_is_number fn fdn P_is_number) (d_is_integer : Df K mg "is_integer" s_is_integer fi fdi P_is_integer)
    (T : Txt mg) (TC : TxC K CM) (TE : PySem.ErrX.ErrTxt K mg "InvalidMachine" "InvalidMachine.__init__" CE fCE) : FnOk P w K mg base (L2.CX P w) 7 f fd P_Machine___init (spInit CM CE) := by
  have G_is_sequence : FnOk P w K mg base CX0 1 fs fds P_is_sequence (spT1 isS) := ok_sequence d_is_sequence T
  have G_is_number : FnOk P w K mg base CX0 2 fn fdn P_is_number (spT1 isN) := ok_number d_is_number d_is_integer T
  have G_is_entry : FnOk P w K mg base CX0 5 fe fde P_is_entry spEntry := ok_entry d_is_entry d_is_sequence d_are_below d_is_below d_is_number d_is_integer T
  refine F.okX sc_Machine___init (fun vs H Q E h => ?_) (fun cdv Ar outer s H vs Q E hr h => ?_)
  · obtain ⟨m, dx, x, y, dc, ds, rfl, _⟩ := h
    rfl
  · obtain ⟨m, dx, x, y, dc, ds, rfl, hm, Dx, Dy, hz1, hz2, kB, kG⟩ := h
    cases id Dy with
    | @lst a xs ds' ha hx => 
      refine ⟨_, (pss_cons (ps_if (PW.pt (pw_or (pt_not (pt_val (pe_call G_is_number (hr.mono (by decide)) rfl d_is_number.g d_is_number.F.kp d_is_number.b .nil pass0 (pa_cons (pv 1) pa_nil)))) (pw_or1 (pt_cmpR op_eq (pv 1) pe_int (nomark _))))) (pss_one (ps_raiseLow rfl TE hr (takes_of rfl rfl rfl rfl) (pa_cons pe_int pa_nil) (by rfl))) pss_nil)
    (pss_cons (ps_if (PW.pt (pw_or (pt_not (pt_val (pe_call G_is_sequence (hr.mono (by decide)) rfl d_is_sequence.g d_is_sequence.F.kp d_is_sequence.b .nil pass0 (pa_cons (pv 2) pa_nil)))) (pw_or1 (pt_cmpR op_eq (pe_callB call_len_seq (by rfl) T.len PySem.boot_len (pa_cons (pv 2) pa_nil)) pe_int (nomark _))))) (pss_one (ps_raiseLow rfl TE hr (takes_of rfl rfl rfl rfl) (pa_cons pe_int pa_nil) (by rfl))) pss_nil)
    (pss_cons (ps_for (passes_of rfl) rfl (pi_enum (by rfl) T.enumerate (pa_cons (pv 2) pa_nil)) (pg_tup rfl (pgs_cons (pg_name (i := 3) sc_Machine___init.nd rfl (Or.inl rfl)) (pgs_cons (pg_name (i := 4) sc_Machine___init.nd rfl (Or.inl rfl)) pgs_nil)))
      (pss_one (ps_if (pt_not (pt_val (pe_call G_is_entry (hr.mono (by decide)) rfl d_is_entry.g d_is_entry.F.kp d_is_entry.b .nil pass0 (pa_cons (pv 4) (pa_cons (pv 1) (pa_cons (pe_callB call_len_seq (by rfl) T.len PySem.boot_len (pa_cons (pv 2) pa_nil)) pa_nil)))))) (pss_one (ps_raiseLow rfl TE hr (takes_of rfl rfl rfl rfl) (pa_cons (pe_op op_add pe_int (pv 3)) pa_nil) (by rfl))) pss_nil)))
    (pss_cons (ps_fld (pv 0) (pv 1) rfl)
    (pss_cons (ps_fld (pv 0) (pe_callB call_len_seq (by rfl) T.len PySem.boot_len (pa_cons (pv 2) pa_nil)) rfl)
    (pss_one (ps_fld (pv 0) (pe_tupleOf (by rfl) T.tuple (pe_lc (own := [("entry", 4)]) (g := gName 4) (tt := tYes) (te := tThen (tVar 4) (kTup K)) rfl sc_Machine___init.nd (pi_list (pv 2)) (blkOk_by (N := N_Machine___init) (sc := defScope s_Machine___init) (by decide +kernel)) (fun _ _ _ _ _ => (pg_name (i := 4) sc_Machine___init.nd rfl (Or.inl rfl))) (fun _ _ _ _ _ => pts_nil) (fun _ _ _ _ _ => (pe_tupleOf (by rfl) T.tuple (pv 4))))) rfl))))))), ?_⟩
      have hne : a ≠ m := fun e => by
        rw [e, hm] at ha
        cases ha
      refine ⟨_, rfl, x, dc, rfl, Dx, fun H1 S1 => ⟨isN dc, rfl, ?_⟩⟩
      have hlen : xs.length = ds'.length := hx.len
      -- the first test
      by_cases hb : badC dc = true
      · have kb := kB hb
        have hN : ∀ i, dc = .int i → i ≤ 0 := fun i e => by
          rw [e] at hb
          exact of_decide_eq_true hb
        cases Dx with
        | int i =>
          have i0 := hN i rfl
          show (if (!decide (0 ≤ i)) = true then _ else _)
          by_cases h0 : 0 ≤ i
          · have e0 : i = 0 := by omega
            rw [decide_eq_true h0]
            refine iteF ⟨_, rfl, rfl, _, rfl, ?_⟩
            rw [e0]
            refine iteT ⟨_, rfl, fun q hq => kb H1 q S1 hq⟩
          · rw [decide_eq_false h0]
            exact iteT (iteT ⟨_, rfl, fun q hq => kb H1 q S1 hq⟩)
        | non => exact iteT (iteT ⟨_, rfl, fun q hq => kb H1 q S1 hq⟩)
        | bl b => exact iteT (iteT ⟨_, rfl, fun q hq => kb H1 q S1 hq⟩)
        | str b => exact iteT (iteT ⟨_, rfl, fun q hq => kb H1 q S1 hq⟩)
        | lst _ _ => exact iteT (iteT ⟨_, rfl, fun q hq => kb H1 q S1 hq⟩)
        | tup _ _ => exact iteT (iteT ⟨_, rfl, fun q hq => kb H1 q S1 hq⟩)
        | dct _ => exact iteT (iteT ⟨_, rfl, fun q hq => kb H1 q S1 hq⟩)
      obtain ⟨A, rfl, A0⟩ : ∃ A : Int, dc = .int A ∧ 0 < A := by
        cases dc with
        | int i => exact ⟨i, rfl, by have : ¬ i ≤ 0 := fun q => hb (decide_eq_true q); omega⟩
        | none => exact absurd rfl hb
        | bool _ => exact absurd rfl hb
        | str _ => exact absurd rfl hb
        | list _ => exact absurd rfl hb
        | tuple _ => exact absurd rfl hb
        | dict _ => exact absurd rfl hb
      have kG' := kG (by simpa using hb) A rfl
      obtain rfl : x = V.int A := by cases Dx; rfl
      show (if (!decide (0 ≤ A)) = true then _ else _)
      rw [decide_eq_true (show 0 ≤ A by omega)]
      refine iteF ⟨_, rfl, rfl, _, rfl, ?_⟩
      rw [decide_eq_false (show ¬ V.int A = V.int 0 from fun e => by injection e with e; omega)]
      refine iteF ?_
      -- the second test
      refine ⟨_, rfl, .ref a, _, rfl, Dy.same S1, fun H2 S2 => ⟨true, rfl, iteF ⟨_, rfl, a, xs, rfl, .inl (SqL.of ((S1.trans S2) _ _ ha)), rfl, _, rfl, ?_⟩⟩⟩
      have S12 := S1.trans S2
      cases hds : ds' with
      | nil =>
        have hx0 : xs.length = 0 := by rw [hlen, hds]; rfl
        rw [hx0]
        refine iteT ⟨_, rfl, fun q hq => ?_⟩
        have e : stepsRes A (.list ds') = some 1 := by rw [hds] <;> rfl
        rw [e] at kG'
        exact kG' H2 q S12 hq
      | cons d0 dr =>
      have hpos : 0 < ds'.length := by rw [hds]; simp
      rw [decide_eq_false (show ¬ V.int ((xs.length : Nat) : Int) = V.int 0 from fun e => by injection e with e; omega)]
      refine iteF ?_
      have eR : stepsRes A (.list ds') = (badAt A (ds'.length : Int) ds' 0).map fun i => 2 + (i : Int) := by
        unfold stepsRes
        rw [if_neg (by rw [hds]; intro z; rcases z with z | z <;> cases z)]
        rfl
      rw [eR] at kG'
      refine ⟨_, rfl, a, xs, rfl, SqL.of (S12 _ _ ha), for_enumL (K := K) (a := a) (xs := xs) (fun i σ H3 => ∃ v3 v4 : Option V, σ = [some (.ref m), some (.int A), some (.ref a), v3, v4] ∧ Same H H3 ∧ badAt A (ds'.length : Int) ds' 0 = badAt A (ds'.length : Int) (ds'.drop i) i) ⟨none, none, rfl, S12, rfl⟩ (fun i σ H3 ⟨_, _, _, S, _⟩ => SqL.of (S _ _ ha)) ?_ ?_⟩
      · rintro i y σ H3 t hi ⟨v3, v4, rfl, S3, eb⟩ ht
        obtain ⟨e, he, De⟩ := hx.get hi
        have S4 : Same H (upd H3 t (HO.tup [V.int ((i : Nat) : Int), y])) := S3.trans (Same.new ht)
        refine ⟨t, _, rfl, SqT.of upd_same, rfl, _, _, rfl, _, _, rfl, rfl, ?_⟩
        refine ⟨_, rfl, _, rfl, _, rfl, a, xs, rfl, .inl (SqL.of (S4 _ _ ha)), y, e, A, _, rfl, De.same S4, Nat.le_trans (hz2 e (mem_of_get he)) (by decide), fun H5 S5 => ⟨isE A ((xs.length : Nat) : Int) e, rfl, ?_⟩⟩
        rw [drop_get he] at eb
        rw [hlen]
        rw [badAt_cons] at eb
        by_cases hE : isE A (ds'.length : Int) e = true
        · rw [if_pos hE] at eb
          rw [hE]
          exact iteF ⟨_, _, rfl, S4.trans S5, eb⟩
        · rw [if_neg hE] at eb
          rw [show isE A (ds'.length : Int) e = false by simpa using hE]
          refine iteT ⟨_, rfl, _, _, rfl, rfl, _, rfl, fun q hq => ?_⟩
          rw [eb] at kG'
          exact kG' H5 q (S4.trans S5) hq
      · rintro σ H3 ⟨v3, v4, rfl, S3, eb⟩
        rw [hlen, List.drop_length] at eb
        rw [show badAt A (ds'.length : Int) ds' 0 = none from eb] at kG'
        have okE : ∀ e ∈ ds', isE A (ds'.length : Int) e = true := badAt_none eb
        have hm3 : H3 m = some (.ins CM dx []) := S3 _ _ hm
        -- the fields
        refine ⟨_, rfl, _, rfl, m, CM, dx, [], rfl, hm3, TC.cl, TC.n1, (by show 0 < 1000; decide), ?_⟩
        have hkm : ∀ {o : HO}, KP (fun b => b = m) H (upd H3 m o) := (KP.same (S := fun b => b = m) S3).trans (kp_upd rfl)
        refine ⟨_, rfl, a, xs, rfl, .inl (SqL.of (hkm.get hne ha)), _, rfl, m, CM, dx, _, rfl, upd_same, TC.cl, TC.n2, (by show 1 < 1000; decide), ?_⟩
        have hkm2 : ∀ {o1 o2 : HO}, KP (fun b => b = m) H (upd (upd H3 m o1) m o2) := ((KP.same (S := fun b => b = m) S3).trans (kp_upd rfl)).trans (kp_upd rfl)
        refine ⟨_, rfl, a, rfl, ⟨_, SqL.of (hkm2.get hne ha)⟩, fun D hD => ?_⟩
        have nDm : D ≠ m := fun e => by
          rw [e, upd_same] at hD
          cases hD
        have hD0 : H D = none := hkm2.free nDm hD
        refine lcL (K := K) (xs := xs) (fun _ => False) (fun H' => True) (fun i y H' => ∃ u : Addr × List Int, y = V.ref u.1 ∧ u.1 ≠ D ∧ u.1 ≠ m ∧ H' u.1 = some (.tup (u.2.map V.int)) ∧ ∃ e, ds'[i]? = some e ∧ u.2 = rowD e) hD id (by rw [hlen]; exact Nat.le_trans hz1 (by decide)) trivial (fun _ _ _ => trivial)
          (fun i y H' H'' kk ⟨u, e1, e2, e3, e4, e5⟩ => ⟨u, e1, e2, e3, kk.get (fun z => z.elim id e2) e4, e5⟩) (fun H' kk => SqL.of (kk.get id (hkm2.get hne ha))) (fun i y H4 acc hi _ k4 hDa Q4 kQ => ?_) (fun ys H4 hl4 hf4 hD4 _ k4 => ?_)
        · obtain ⟨e, he, De⟩ := hx.get hi
          have hE := okE e (mem_of_get he)
          obtain ⟨b, zs, hyb, hb1⟩ := entry_read De hE
          have bm : b ≠ m := fun q => by
            rcases hb1 with h1 | h1 <;>
            · rw [q, hm] at h1
              cases h1
          have hb4 : ∀ {o : HO}, H b = some o → H4 b = some o := fun h => k4.get id (hkm2.get bm h)
          refine ⟨_, rfl, ?_⟩
          rw [hyb]
          rcases hb1 with h1 | h1
          · refine .inl ⟨b, _, rfl, SqL.of (hb4 h1), fun q hq => kQ _ _ trivial (KP.new hq) ⟨(q, rowD e), rfl, fun z => ?_, fun z => ?_, upd_same, e, he, rfl⟩⟩
            · have z' : q = D := z
              rw [z', hDa] at hq
              cases hq
            · have z' : q = m := z
              have hm4 : H4 m = some _ := k4.get id upd_same
              rw [z', hm4] at hq
              cases hq
          · refine .inr ⟨b, _, rfl, SqT.of (hb4 h1), kQ _ _ trivial (KP.refl _ _) ⟨(b, rowD e), rfl, fun z => ?_, bm, hb4 h1, e, he, rfl⟩⟩
            have z' : b = D := z
            rw [z', hD0] at h1
            cases h1
        · obtain ⟨us, rfl, hu⟩ := collect (g := fun u : Addr × List Int => V.ref u.1) hf4
          refine .inl ⟨D, _, rfl, SqL.of hD4, fun t ht => ?_⟩
          have hm4 : H4 m = some _ := k4.get id upd_same
          have ntm : t ≠ m := fun e => by
            rw [e, hm4] at ht
            cases ht
          refine ⟨_, rfl, m, CM, dx, _, rfl, by rw [upd_ne ntm.symm]; exact hm4, TC.cl, TC.n3, (by show 2 < 1000; decide), ?_⟩
          rw [List.length_map] at hl4
          have hmem : ∀ u ∈ us, u.1 ≠ m ∧ H4 u.1 = some (.tup (u.2.map V.int)) := fun u hu' => by
            obtain ⟨i, hi⟩ := List.getElem?_of_mem hu'
            obtain ⟨_, h2, h3, _⟩ := hu i u hi
            exact ⟨h2, h3⟩
          refine kG' _ us (((hkm2.trans (k4.weak fun _ z => z.elim)).trans (KP.new ht)).trans (kp_upd rfl)) ⟨dx, t, ?_, ?_, fun u hu' => ?_⟩ ?_
          · rw [upd_same, hl4]
            rfl
          · rw [upd_ne ntm, upd_same]
          · obtain ⟨h2, h3⟩ := hmem u hu'
            rw [upd_ne h2]
            exact nk h3 ht
          · refine List.ext_getElem? fun i => ?_
            rw [List.getElem?_map]
            cases hi : us[i]? with
            | none =>
              have q : us.length ≤ i := List.getElem?_eq_none_iff.mp hi
              have q2 : ((itemsD (.list ds')).map rowD)[i]? = none := List.getElem?_eq_none_iff.mpr (by rw [List.length_map]; show ds'.length ≤ i; omega)
              exact q2.symm
            | some u =>
              obtain ⟨_, _, _, e, he, hr'⟩ := hu i u hi
              have q2 : ((itemsD (.list ds')).map rowD)[i]? = some (rowD e) := by
                rw [List.getElem?_map]
                show (ds'[i]?).map rowD = _
                rw [he] <;> rfl
              rw [q2]
              show some u.2 = some (rowD e)
              rw [hr']
    | @tup a xs ds' ha hx => 
      refine ⟨_, (pss_cons (ps_if (PW.pt (pw_or (pt_not (pt_val (pe_call G_is_number (hr.mono (by decide)) rfl d_is_number.g d_is_number.F.kp d_is_number.b .nil pass0 (pa_cons (pv 1) pa_nil)))) (pw_or1 (pt_cmpR op_eq (pv 1) pe_int (nomark _))))) (pss_one (ps_raiseLow rfl TE hr (takes_of rfl rfl rfl rfl) (pa_cons pe_int pa_nil) (by rfl))) pss_nil)
    (pss_cons (ps_if (PW.pt (pw_or (pt_not (pt_val (pe_call G_is_sequence (hr.mono (by decide)) rfl d_is_sequence.g d_is_sequence.F.kp d_is_sequence.b .nil pass0 (pa_cons (pv 2) pa_nil)))) (pw_or1 (pt_cmpR op_eq (pe_callB call_len_seq (by rfl) T.len PySem.boot_len (pa_cons (pv 2) pa_nil)) pe_int (nomark _))))) (pss_one (ps_raiseLow rfl TE hr (takes_of rfl rfl rfl rfl) (pa_cons pe_int pa_nil) (by rfl))) pss_nil)
    (pss_cons (ps_for (passes_of rfl) rfl (pi_enumT (by rfl) T.enumerate (pa_cons (pv 2) pa_nil)) (pg_tup rfl (pgs_cons (pg_name (i := 3) sc_Machine___init.nd rfl (Or.inl rfl)) (pgs_cons (pg_name (i := 4) sc_Machine___init.nd rfl (Or.inl rfl)) pgs_nil)))
      (pss_one (ps_if (pt_not (pt_val (pe_call G_is_entry (hr.mono (by decide)) rfl d_is_entry.g d_is_entry.F.kp d_is_entry.b .nil pass0 (pa_cons (pv 4) (pa_cons (pv 1) (pa_cons (pe_callB call_len_seq (by rfl) T.len PySem.boot_len (pa_cons (pv 2) pa_nil)) pa_nil)))))) (pss_one (ps_raiseLow rfl TE hr (takes_of rfl rfl rfl rfl) (pa_cons (pe_op op_add pe_int (pv 3)) pa_nil) (by rfl))) pss_nil)))
    (pss_cons (ps_fld (pv 0) (pv 1) rfl)
    (pss_cons (ps_fld (pv 0) (pe_callB call_len_seq (by rfl) T.len PySem.boot_len (pa_cons (pv 2) pa_nil)) rfl)
    (pss_one (ps_fld (pv 0) (pe_tupleOf (by rfl) T.tuple (pe_lc (own := [("entry", 4)]) (g := gName 4) (tt := tYes) (te := tThen (tVar 4) (kTup K)) rfl sc_Machine___init.nd (pi_tup (pv 2)) (blkOk_by (N := N_Machine___init) (sc := defScope s_Machine___init) (by decide +kernel)) (fun _ _ _ _ _ => (pg_name (i := 4) sc_Machine___init.nd rfl (Or.inl rfl))) (fun _ _ _ _ _ => pts_nil) (fun _ _ _ _ _ => (pe_tupleOf (by rfl) T.tuple (pv 4))))) rfl))))))), ?_⟩
      have hne : a ≠ m := fun e => by
        rw [e, hm] at ha
        cases ha
      refine ⟨_, rfl, x, dc, rfl, Dx, fun H1 S1 => ⟨isN dc, rfl, ?_⟩⟩
      have hlen : xs.length = ds'.length := hx.len
      -- the first test
      by_cases hb : badC dc = true
      · have kb := kB hb
        have hN : ∀ i, dc = .int i → i ≤ 0 := fun i e => by
          rw [e] at hb
          exact of_decide_eq_true hb
        cases Dx with
        | int i =>
          have i0 := hN i rfl
          show (if (!decide (0 ≤ i)) = true then _ else _)
          by_cases h0 : 0 ≤ i
          · have e0 : i = 0 := by omega
            rw [decide_eq_true h0]
            refine iteF ⟨_, rfl, rfl, _, rfl, ?_⟩
            rw [e0]
            refine iteT ⟨_, rfl, fun q hq => kb H1 q S1 hq⟩
          · rw [decide_eq_false h0]
            exact iteT (iteT ⟨_, rfl, fun q hq => kb H1 q S1 hq⟩)
        | non => exact iteT (iteT ⟨_, rfl, fun q hq => kb H1 q S1 hq⟩)
        | bl b => exact iteT (iteT ⟨_, rfl, fun q hq => kb H1 q S1 hq⟩)
        | str b => exact iteT (iteT ⟨_, rfl, fun q hq => kb H1 q S1 hq⟩)
        | lst _ _ => exact iteT (iteT ⟨_, rfl, fun q hq => kb H1 q S1 hq⟩)
        | tup _ _ => exact iteT (iteT ⟨_, rfl, fun q hq => kb H1 q S1 hq⟩)
        | dct _ => exact iteT (iteT ⟨_, rfl, fun q hq => kb H1 q S1 hq⟩)
      obtain ⟨A, rfl, A0⟩ : ∃ A : Int, dc = .int A ∧ 0 < A := by
        cases dc with
        | int i => exact ⟨i, rfl, by have : ¬ i ≤ 0 := fun q => hb (decide_eq_true q); omega⟩
        | none => exact absurd rfl hb
        | bool _ => exact absurd rfl hb
        | str _ => exact absurd rfl hb
        | list _ => exact absurd rfl hb
        | tuple _ => exact absurd rfl hb
        | dict _ => exact absurd rfl hb
      have kG' := kG (by simpa using hb) A rfl
      obtain rfl : x = V.int A := by cases Dx; rfl
      show (if (!decide (0 ≤ A)) = true then _ else _)
      rw [decide_eq_true (show 0 ≤ A by omega)]
      refine iteF ⟨_, rfl, rfl, _, rfl, ?_⟩
      rw [decide_eq_false (show ¬ V.int A = V.int 0 from fun e => by injection e with e; omega)]
      refine iteF ?_
      -- the second test
      refine ⟨_, rfl, .ref a, _, rfl, Dy.same S1, fun H2 S2 => ⟨true, rfl, iteF ⟨_, rfl, a, xs, rfl, .inr (SqT.of ((S1.trans S2) _ _ ha)), rfl, _, rfl, ?_⟩⟩⟩
      have S12 := S1.trans S2
      cases hds : ds' with
      | nil =>
        have hx0 : xs.length = 0 := by rw [hlen, hds]; rfl
        rw [hx0]
        refine iteT ⟨_, rfl, fun q hq => ?_⟩
        have e : stepsRes A (.tuple ds') = some 1 := by rw [hds] <;> rfl
        rw [e] at kG'
        exact kG' H2 q S12 hq
      | cons d0 dr =>
      have hpos : 0 < ds'.length := by rw [hds]; simp
      rw [decide_eq_false (show ¬ V.int ((xs.length : Nat) : Int) = V.int 0 from fun e => by injection e with e; omega)]
      refine iteF ?_
      have eR : stepsRes A (.tuple ds') = (badAt A (ds'.length : Int) ds' 0).map fun i => 2 + (i : Int) := by
        unfold stepsRes
        rw [if_neg (by rw [hds]; intro z; rcases z with z | z <;> cases z)]
        rfl
      rw [eR] at kG'
      refine ⟨_, rfl, a, xs, rfl, SqT.of (S12 _ _ ha), for_enumT (K := K) (a := a) (xs := xs) (fun i σ H3 => ∃ v3 v4 : Option V, σ = [some (.ref m), some (.int A), some (.ref a), v3, v4] ∧ Same H H3 ∧ badAt A (ds'.length : Int) ds' 0 = badAt A (ds'.length : Int) (ds'.drop i) i) ⟨none, none, rfl, S12, rfl⟩ (fun i σ H3 ⟨_, _, _, S, _⟩ => SqT.of (S _ _ ha)) ?_ ?_⟩
      · rintro i y σ H3 t hi ⟨v3, v4, rfl, S3, eb⟩ ht
        obtain ⟨e, he, De⟩ := hx.get hi
        have S4 : Same H (upd H3 t (HO.tup [V.int ((i : Nat) : Int), y])) := S3.trans (Same.new ht)
        refine ⟨t, _, rfl, SqT.of upd_same, rfl, _, _, rfl, _, _, rfl, rfl, ?_⟩
        refine ⟨_, rfl, _, rfl, _, rfl, a, xs, rfl, .inr (SqT.of (S4 _ _ ha)), y, e, A, _, rfl, De.same S4, Nat.le_trans (hz2 e (mem_of_get he)) (by decide), fun H5 S5 => ⟨isE A ((xs.length : Nat) : Int) e, rfl, ?_⟩⟩
        rw [drop_get he] at eb
        rw [hlen]
        rw [badAt_cons] at eb
        by_cases hE : isE A (ds'.length : Int) e = true
        · rw [if_pos hE] at eb
          rw [hE]
          exact iteF ⟨_, _, rfl, S4.trans S5, eb⟩
        · rw [if_neg hE] at eb
          rw [show isE A (ds'.length : Int) e = false by simpa using hE]
          refine iteT ⟨_, rfl, _, _, rfl, rfl, _, rfl, fun q hq => ?_⟩
          rw [eb] at kG'
          exact kG' H5 q (S4.trans S5) hq
      · rintro σ H3 ⟨v3, v4, rfl, S3, eb⟩
        rw [hlen, List.drop_length] at eb
        rw [show badAt A (ds'.length : Int) ds' 0 = none from eb] at kG'
        have okE : ∀ e ∈ ds', isE A (ds'.length : Int) e = true := badAt_none eb
        have hm3 : H3 m = some (.ins CM dx []) := S3 _ _ hm
        -- the fields
        refine ⟨_, rfl, _, rfl, m, CM, dx, [], rfl, hm3, TC.cl, TC.n1, (by show 0 < 1000; decide), ?_⟩
        have hkm : ∀ {o : HO}, KP (fun b => b = m) H (upd H3 m o) := (KP.same (S := fun b => b = m) S3).trans (kp_upd rfl)
        refine ⟨_, rfl, a, xs, rfl, .inr (SqT.of (hkm.get hne ha)), _, rfl, m, CM, dx, _, rfl, upd_same, TC.cl, TC.n2, (by show 1 < 1000; decide), ?_⟩
        have hkm2 : ∀ {o1 o2 : HO}, KP (fun b => b = m) H (upd (upd H3 m o1) m o2) := ((KP.same (S := fun b => b = m) S3).trans (kp_upd rfl)).trans (kp_upd rfl)
        refine ⟨_, rfl, a, rfl, ⟨_, SqT.of (hkm2.get hne ha)⟩, fun D hD => ?_⟩
        have nDm : D ≠ m := fun e => by
          rw [e, upd_same] at hD
          cases hD
        have hD0 : H D = none := hkm2.free nDm hD
        refine lcTT (K := K) (xs := xs) (fun _ => False) (fun H' => True) (fun i y H' => ∃ u : Addr × List Int, y = V.ref u.1 ∧ u.1 ≠ D ∧ u.1 ≠ m ∧ H' u.1 = some (.tup (u.2.map V.int)) ∧ ∃ e, ds'[i]? = some e ∧ u.2 = rowD e) hD id (by rw [hlen]; exact Nat.le_trans hz1 (by decide)) trivial (fun _ _ _ => trivial)
          (fun i y H' H'' kk ⟨u, e1, e2, e3, e4, e5⟩ => ⟨u, e1, e2, e3, kk.get (fun z => z.elim id e2) e4, e5⟩) (fun H' kk => SqT.of (kk.get id (hkm2.get hne ha))) (fun i y H4 acc hi _ k4 hDa Q4 kQ => ?_) (fun ys H4 hl4 hf4 hD4 _ k4 => ?_)
        · obtain ⟨e, he, De⟩ := hx.get hi
          have hE := okE e (mem_of_get he)
          obtain ⟨b, zs, hyb, hb1⟩ := entry_read De hE
          have bm : b ≠ m := fun q => by
            rcases hb1 with h1 | h1 <;>
            · rw [q, hm] at h1
              cases h1
          have hb4 : ∀ {o : HO}, H b = some o → H4 b = some o := fun h => k4.get id (hkm2.get bm h)
          refine ⟨_, rfl, ?_⟩
          rw [hyb]
          rcases hb1 with h1 | h1
          · refine .inl ⟨b, _, rfl, SqL.of (hb4 h1), fun q hq => kQ _ _ trivial (KP.new hq) ⟨(q, rowD e), rfl, fun z => ?_, fun z => ?_, upd_same, e, he, rfl⟩⟩
            · have z' : q = D := z
              rw [z', hDa] at hq
              cases hq
            · have z' : q = m := z
              have hm4 : H4 m = some _ := k4.get id upd_same
              rw [z', hm4] at hq
              cases hq
          · refine .inr ⟨b, _, rfl, SqT.of (hb4 h1), kQ _ _ trivial (KP.refl _ _) ⟨(b, rowD e), rfl, fun z => ?_, bm, hb4 h1, e, he, rfl⟩⟩
            have z' : b = D := z
            rw [z', hD0] at h1
            cases h1
        · obtain ⟨us, rfl, hu⟩ := collect (g := fun u : Addr × List Int => V.ref u.1) hf4
          refine .inl ⟨D, _, rfl, SqL.of hD4, fun t ht => ?_⟩
          have hm4 : H4 m = some _ := k4.get id upd_same
          have ntm : t ≠ m := fun e => by
            rw [e, hm4] at ht
            cases ht
          refine ⟨_, rfl, m, CM, dx, _, rfl, by rw [upd_ne ntm.symm]; exact hm4, TC.cl, TC.n3, (by show 2 < 1000; decide), ?_⟩
          rw [List.length_map] at hl4
          have hmem : ∀ u ∈ us, u.1 ≠ m ∧ H4 u.1 = some (.tup (u.2.map V.int)) := fun u hu' => by
            obtain ⟨i, hi⟩ := List.getElem?_of_mem hu'
            obtain ⟨_, h2, h3, _⟩ := hu i u hi
            exact ⟨h2, h3⟩
          refine kG' _ us (((hkm2.trans (k4.weak fun _ z => z.elim)).trans (KP.new ht)).trans (kp_upd rfl)) ⟨dx, t, ?_, ?_, fun u hu' => ?_⟩ ?_
          · rw [upd_same, hl4]
            rfl
          · rw [upd_ne ntm, upd_same]
          · obtain ⟨h2, h3⟩ := hmem u hu'
            rw [upd_ne h2]
            exact nk h3 ht
          · refine List.ext_getElem? fun i => ?_
            rw [List.getElem?_map]
            cases hi : us[i]? with
            | none =>
              have q : us.length ≤ i := List.getElem?_eq_none_iff.mp hi
              have q2 : ((itemsD (.tuple ds')).map rowD)[i]? = none := List.getElem?_eq_none_iff.mpr (by rw [List.length_map]; show ds'.length ≤ i; omega)
              exact q2.symm
            | some u =>
              obtain ⟨_, _, _, e, he, hr'⟩ := hu i u hi
              have q2 : ((itemsD (.tuple ds')).map rowD)[i]? = some (rowD e) := by
                rw [List.getElem?_map]
                show (ds'[i]?).map rowD = _
                rw [he] <;> rfl
              rw [q2]
              show some u.2 = some (rowD e)
              rw [hr']
    | non => 
      refine ⟨_, (pss_cons (ps_if (PW.pt (pw_or (pt_not (pt_val (pe_call G_is_number (hr.mono (by decide)) rfl d_is_number.g d_is_number.F.kp d_is_number.b .nil pass0 (pa_cons (pv 1) pa_nil)))) (pw_or1 (pt_cmpR op_eq (pv 1) pe_int (nomark _))))) (pss_one (ps_raiseLow rfl TE hr (takes_of rfl rfl rfl rfl) (pa_cons pe_int pa_nil) (by rfl))) pss_nil)
    (pss_cons (ps_if (PW.pt (pw_or (pt_not (pt_val (pe_call G_is_sequence (hr.mono (by decide)) rfl d_is_sequence.g d_is_sequence.F.kp d_is_sequence.b .nil pass0 (pa_cons (pv 2) pa_nil)))) (pw_or1 (pt_cmpR op_eq (pe_callB call_len_seq (by rfl) T.len PySem.boot_len (pa_cons (pv 2) pa_nil)) pe_int (nomark _))))) (pss_one (ps_raiseLow rfl TE hr (takes_of rfl rfl rfl rfl) (pa_cons pe_int pa_nil) (by rfl))) pss_nil)
    (pss_cons (ps_for (passes_of rfl) rfl (pi_enum (by rfl) T.enumerate (pa_cons (pv 2) pa_nil)) (pg_tup rfl (pgs_cons (pg_name (i := 3) sc_Machine___init.nd rfl (Or.inl rfl)) (pgs_cons (pg_name (i := 4) sc_Machine___init.nd rfl (Or.inl rfl)) pgs_nil)))
      (pss_one (ps_if (pt_not (pt_val (pe_call G_is_entry (hr.mono (by decide)) rfl d_is_entry.g d_is_entry.F.kp d_is_entry.b .nil pass0 (pa_cons (pv 4) (pa_cons (pv 1) (pa_cons (pe_callB call_len_seq (by rfl) T.len PySem.boot_len (pa_cons (pv 2) pa_nil)) pa_nil)))))) (pss_one (ps_raiseLow rfl TE hr (takes_of rfl rfl rfl rfl) (pa_cons (pe_op op_add pe_int (pv 3)) pa_nil) (by rfl))) pss_nil)))
    (pss_cons (ps_fld (pv 0) (pv 1) rfl)
    (pss_cons (ps_fld (pv 0) (pe_callB call_len_seq (by rfl) T.len PySem.boot_len (pa_cons (pv 2) pa_nil)) rfl)
    (pss_one (ps_fld (pv 0) (pe_tupleOf (by rfl) T.tuple (pe_lc (own := [("entry", 4)]) (g := gName 4) (tt := tYes) (te := tThen (tVar 4) (kTup K)) rfl sc_Machine___init.nd (pi_list (pv 2)) (blkOk_by (N := N_Machine___init) (sc := defScope s_Machine___init) (by decide +kernel)) (fun _ _ _ _ _ => (pg_name (i := 4) sc_Machine___init.nd rfl (Or.inl rfl))) (fun _ _ _ _ _ => pts_nil) (fun _ _ _ _ _ => (pe_tupleOf (by rfl) T.tuple (pv 4))))) rfl))))))), ?_⟩
      refine ⟨_, rfl, x, dc, rfl, Dx, fun H1 S1 => ⟨isN dc, rfl, ?_⟩⟩
      -- the first test
      by_cases hb : badC dc = true
      · have kb := kB hb
        have hN : ∀ i, dc = .int i → i ≤ 0 := fun i e => by
          rw [e] at hb
          exact of_decide_eq_true hb
        cases Dx with
        | int i =>
          have i0 := hN i rfl
          show (if (!decide (0 ≤ i)) = true then _ else _)
          by_cases h0 : 0 ≤ i
          · have e0 : i = 0 := by omega
            rw [decide_eq_true h0]
            refine iteF ⟨_, rfl, rfl, _, rfl, ?_⟩
            rw [e0]
            refine iteT ⟨_, rfl, fun q hq => kb H1 q S1 hq⟩
          · rw [decide_eq_false h0]
            exact iteT (iteT ⟨_, rfl, fun q hq => kb H1 q S1 hq⟩)
        | non => exact iteT (iteT ⟨_, rfl, fun q hq => kb H1 q S1 hq⟩)
        | bl b => exact iteT (iteT ⟨_, rfl, fun q hq => kb H1 q S1 hq⟩)
        | str b => exact iteT (iteT ⟨_, rfl, fun q hq => kb H1 q S1 hq⟩)
        | lst _ _ => exact iteT (iteT ⟨_, rfl, fun q hq => kb H1 q S1 hq⟩)
        | tup _ _ => exact iteT (iteT ⟨_, rfl, fun q hq => kb H1 q S1 hq⟩)
        | dct _ => exact iteT (iteT ⟨_, rfl, fun q hq => kb H1 q S1 hq⟩)
      obtain ⟨A, rfl, A0⟩ : ∃ A : Int, dc = .int A ∧ 0 < A := by
        cases dc with
        | int i => exact ⟨i, rfl, by have : ¬ i ≤ 0 := fun q => hb (decide_eq_true q); omega⟩
        | none => exact absurd rfl hb
        | bool _ => exact absurd rfl hb
        | str _ => exact absurd rfl hb
        | list _ => exact absurd rfl hb
        | tuple _ => exact absurd rfl hb
        | dict _ => exact absurd rfl hb
      have kG' := kG (by simpa using hb) A rfl
      obtain rfl : x = V.int A := by cases Dx; rfl
      show (if (!decide (0 ≤ A)) = true then _ else _)
      rw [decide_eq_true (show 0 ≤ A by omega)]
      refine iteF ⟨_, rfl, rfl, _, rfl, ?_⟩
      rw [decide_eq_false (show ¬ V.int A = V.int 0 from fun e => by injection e with e; omega)]
      refine iteF ?_
      refine ⟨_, rfl, _, _, rfl, Dy.same S1, fun H2 S2 => ⟨false, rfl, iteT (iteT ⟨_, rfl, fun q hq => ?_⟩)⟩⟩
      have e : stepsRes A .none = some 1 := rfl
      rw [e] at kG'
      exact kG' H2 q (S1.trans S2) hq
    | bl b => 
      refine ⟨_, (pss_cons (ps_if (PW.pt (pw_or (pt_not (pt_val (pe_call G_is_number (hr.mono (by decide)) rfl d_is_number.g d_is_number.F.kp d_is_number.b .nil pass0 (pa_cons (pv 1) pa_nil)))) (pw_or1 (pt_cmpR op_eq (pv 1) pe_int (nomark _))))) (pss_one (ps_raiseLow rfl TE hr (takes_of rfl rfl rfl rfl) (pa_cons pe_int pa_nil) (by rfl))) pss_nil)
    (pss_cons (ps_if (PW.pt (pw_or (pt_not (pt_val (pe_call G_is_sequence (hr.mono (by decide)) rfl d_is_sequence.g d_is_sequence.F.kp d_is_sequence.b .nil pass0 (pa_cons (pv 2) pa_nil)))) (pw_or1 (pt_cmpR op_eq (pe_callB call_len_seq (by rfl) T.len PySem.boot_len (pa_cons (pv 2) pa_nil)) pe_int (nomark _))))) (pss_one (ps_raiseLow rfl TE hr (takes_of rfl rfl rfl rfl) (pa_cons pe_int pa_nil) (by rfl))) pss_nil)
    (pss_cons (ps_for (passes_of rfl) rfl (pi_enum (by rfl) T.enumerate (pa_cons (pv 2) pa_nil)) (pg_tup rfl (pgs_cons (pg_name (i := 3) sc_Machine___init.nd rfl (Or.inl rfl)) (pgs_cons (pg_name (i := 4) sc_Machine___init.nd rfl (Or.inl rfl)) pgs_nil)))
      (pss_one (ps_if (pt_not (pt_val (pe_call G_is_entry (hr.mono (by decide)) rfl d_is_entry.g d_is_entry.F.kp d_is_entry.b .nil pass0 (pa_cons (pv 4) (pa_cons (pv 1) (pa_cons (pe_callB call_len_seq (by rfl) T.len PySem.boot_len (pa_cons (pv 2) pa_nil)) pa_nil)))))) (pss_one (ps_raiseLow rfl TE hr (takes_of rfl rfl rfl rfl) (pa_cons (pe_op op_add pe_int (pv 3)) pa_nil) (by rfl))) pss_nil)))
    (pss_cons (ps_fld (pv 0) (pv 1) rfl)
    (pss_cons (ps_fld (pv 0) (pe_callB call_len_seq (by rfl) T.len PySem.boot_len (pa_cons (pv 2) pa_nil)) rfl)
    (pss_one (ps_fld (pv 0) (pe_tupleOf (by rfl) T.tuple (pe_lc (own := [("entry", 4)]) (g := gName 4) (tt := tYes) (te := tThen (tVar 4) (kTup K)) rfl sc_Machine___init.nd (pi_list (pv 2)) (blkOk_by (N := N_Machine___init) (sc := defScope s_Machine___init) (by decide +kernel)) (fun _ _ _ _ _ => (pg_name (i := 4) sc_Machine___init.nd rfl (Or.inl rfl))) (fun _ _ _ _ _ => pts_nil) (fun _ _ _ _ _ => (pe_tupleOf (by rfl) T.tuple (pv 4))))) rfl))))))), ?_⟩
      refine ⟨_, rfl, x, dc, rfl, Dx, fun H1 S1 => ⟨isN dc, rfl, ?_⟩⟩
      -- the first test
      by_cases hb : badC dc = true
      · have kb := kB hb
        have hN : ∀ i, dc = .int i → i ≤ 0 := fun i e => by
          rw [e] at hb
          exact of_decide_eq_true hb
        cases Dx with
        | int i =>
          have i0 := hN i rfl
          show (if (!decide (0 ≤ i)) = true then _ else _)
          by_cases h0 : 0 ≤ i
          · have e0 : i = 0 := by omega
            rw [decide_eq_true h0]
            refine iteF ⟨_, rfl, rfl, _, rfl, ?_⟩
            rw [e0]
            refine iteT ⟨_, rfl, fun q hq => kb H1 q S1 hq⟩
          · rw [decide_eq_false h0]
            exact iteT (iteT ⟨_, rfl, fun q hq => kb H1 q S1 hq⟩)
        | non => exact iteT (iteT ⟨_, rfl, fun q hq => kb H1 q S1 hq⟩)
        | bl b => exact iteT (iteT ⟨_, rfl, fun q hq => kb H1 q S1 hq⟩)
        | str b => exact iteT (iteT ⟨_, rfl, fun q hq => kb H1 q S1 hq⟩)
        | lst _ _ => exact iteT (iteT ⟨_, rfl, fun q hq => kb H1 q S1 hq⟩)
        | tup _ _ => exact iteT (iteT ⟨_, rfl, fun q hq => kb H1 q S1 hq⟩)
        | dct _ => exact iteT (iteT ⟨_, rfl, fun q hq => kb H1 q S1 hq⟩)
      obtain ⟨A, rfl, A0⟩ : ∃ A : Int, dc = .int A ∧ 0 < A := by
        cases dc with
        | int i => exact ⟨i, rfl, by have : ¬ i ≤ 0 := fun q => hb (decide_eq_true q); omega⟩
        | none => exact absurd rfl hb
        | bool _ => exact absurd rfl hb
        | str _ => exact absurd rfl hb
        | list _ => exact absurd rfl hb
        | tuple _ => exact absurd rfl hb
        | dict _ => exact absurd rfl hb
      have kG' := kG (by simpa using hb) A rfl
      obtain rfl : x = V.int A := by cases Dx; rfl
      show (if (!decide (0 ≤ A)) = true then _ else _)
      rw [decide_eq_true (show 0 ≤ A by omega)]
      refine iteF ⟨_, rfl, rfl, _, rfl, ?_⟩
      rw [decide_eq_false (show ¬ V.int A = V.int 0 from fun e => by injection e with e; omega)]
      refine iteF ?_
      refine ⟨_, rfl, _, _, rfl, Dy.same S1, fun H2 S2 => ⟨false, rfl, iteT (iteT ⟨_, rfl, fun q hq => ?_⟩)⟩⟩
      have e : stepsRes A (.bool b) = some 1 := rfl
      rw [e] at kG'
      exact kG' H2 q (S1.trans S2) hq
    | int i0 => 
      refine ⟨_, (pss_cons (ps_if (PW.pt (pw_or (pt_not (pt_val (pe_call G_is_number (hr.mono (by decide)) rfl d_is_number.g d_is_number.F.kp d_is_number.b .nil pass0 (pa_cons (pv 1) pa_nil)))) (pw_or1 (pt_cmpR op_eq (pv 1) pe_int (nomark _))))) (pss_one (ps_raiseLow rfl TE hr (takes_of rfl rfl rfl rfl) (pa_cons pe_int pa_nil) (by rfl))) pss_nil)
    (pss_cons (ps_if (PW.pt (pw_or (pt_not (pt_val (pe_call G_is_sequence (hr.mono (by decide)) rfl d_is_sequence.g d_is_sequence.F.kp d_is_sequence.b .nil pass0 (pa_cons (pv 2) pa_nil)))) (pw_or1 (pt_cmpR op_eq (pe_callB call_len_seq (by rfl) T.len PySem.boot_len (pa_cons (pv 2) pa_nil)) pe_int (nomark _))))) (pss_one (ps_raiseLow rfl TE hr (takes_of rfl rfl rfl rfl) (pa_cons pe_int pa_nil) (by rfl))) pss_nil)
    (pss_cons (ps_for (passes_of rfl) rfl (pi_enum (by rfl) T.enumerate (pa_cons (pv 2) pa_nil)) (pg_tup rfl (pgs_cons (pg_name (i := 3) sc_Machine___init.nd rfl (Or.inl rfl)) (pgs_cons (pg_name (i := 4) sc_Machine___init.nd rfl (Or.inl rfl)) pgs_nil)))
      (pss_one (ps_if (pt_not (pt_val (pe_call G_is_entry (hr.mono (by decide)) rfl d_is_entry.g d_is_entry.F.kp d_is_entry.b .nil pass0 (pa_cons (pv 4) (pa_cons (pv 1) (pa_cons (pe_callB call_len_seq (by rfl) T.len PySem.boot_len (pa_cons (pv 2) pa_nil)) pa_nil)))))) (pss_one (ps_raiseLow rfl TE hr (takes_of rfl rfl rfl rfl) (pa_cons (pe_op op_add pe_int (pv 3)) pa_nil) (by rfl))) pss_nil)))
    (pss_cons (ps_fld (pv 0) (pv 1) rfl)
    (pss_cons (ps_fld (pv 0) (pe_callB call_len_seq (by rfl) T.len PySem.boot_len (pa_cons (pv 2) pa_nil)) rfl)
    (pss_one (ps_fld (pv 0) (pe_tupleOf (by rfl) T.tuple (pe_lc (own := [("entry", 4)]) (g := gName 4) (tt := tYes) (te := tThen (tVar 4) (kTup K)) rfl sc_Machine___init.nd (pi_list (pv 2)) (blkOk_by (N := N_Machine___init) (sc := defScope s_Machine___init) (by decide +kernel)) (fun _ _ _ _ _ => (pg_name (i := 4) sc_Machine___init.nd rfl (Or.inl rfl))) (fun _ _ _ _ _ => pts_nil) (fun _ _ _ _ _ => (pe_tupleOf (by rfl) T.tuple (pv 4))))) rfl))))))), ?_⟩
      refine ⟨_, rfl, x, dc, rfl, Dx, fun H1 S1 => ⟨isN dc, rfl, ?_⟩⟩
      -- the first test
      by_cases hb : badC dc = true
      · have kb := kB hb
        have hN : ∀ i, dc = .int i → i ≤ 0 := fun i e => by
          rw [e] at hb
          exact of_decide_eq_true hb
        cases Dx with
        | int i =>
          have i0 := hN i rfl
          show (if (!decide (0 ≤ i)) = true then _ else _)
          by_cases h0 : 0 ≤ i
          · have e0 : i = 0 := by omega
            rw [decide_eq_true h0]
            refine iteF ⟨_, rfl, rfl, _, rfl, ?_⟩
            rw [e0]
            refine iteT ⟨_, rfl, fun q hq => kb H1 q S1 hq⟩
          · rw [decide_eq_false h0]
            exact iteT (iteT ⟨_, rfl, fun q hq => kb H1 q S1 hq⟩)
        | non => exact iteT (iteT ⟨_, rfl, fun q hq => kb H1 q S1 hq⟩)
        | bl b => exact iteT (iteT ⟨_, rfl, fun q hq => kb H1 q S1 hq⟩)
        | str b => exact iteT (iteT ⟨_, rfl, fun q hq => kb H1 q S1 hq⟩)
        | lst _ _ => exact iteT (iteT ⟨_, rfl, fun q hq => kb H1 q S1 hq⟩)
        | tup _ _ => exact iteT (iteT ⟨_, rfl, fun q hq => kb H1 q S1 hq⟩)
        | dct _ => exact iteT (iteT ⟨_, rfl, fun q hq => kb H1 q S1 hq⟩)
      obtain ⟨A, rfl, A0⟩ : ∃ A : Int, dc = .int A ∧ 0 < A := by
        cases dc with
        | int i => exact ⟨i, rfl, by have : ¬ i ≤ 0 := fun q => hb (decide_eq_true q); omega⟩
        | none => exact absurd rfl hb
        | bool _ => exact absurd rfl hb
        | str _ => exact absurd rfl hb
        | list _ => exact absurd rfl hb
        | tuple _ => exact absurd rfl hb
        | dict _ => exact absurd rfl hb
      have kG' := kG (by simpa using hb) A rfl
      obtain rfl : x = V.int A := by cases Dx; rfl
      show (if (!decide (0 ≤ A)) = true then _ else _)
      rw [decide_eq_true (show 0 ≤ A by omega)]
      refine iteF ⟨_, rfl, rfl, _, rfl, ?_⟩
      rw [decide_eq_false (show ¬ V.int A = V.int 0 from fun e => by injection e with e; omega)]
      refine iteF ?_
      refine ⟨_, rfl, _, _, rfl, Dy.same S1, fun H2 S2 => ⟨false, rfl, iteT (iteT ⟨_, rfl, fun q hq => ?_⟩)⟩⟩
      have e : stepsRes A (.int i0) = some 1 := rfl
      rw [e] at kG'
      exact kG' H2 q (S1.trans S2) hq
    | str z => 
      refine ⟨_, (pss_cons (ps_if (PW.pt (pw_or (pt_not (pt_val (pe_call G_is_number (hr.mono (by decide)) rfl d_is_number.g d_is_number.F.kp d_is_number.b .nil pass0 (pa_cons (pv 1) pa_nil)))) (pw_or1 (pt_cmpR op_eq (pv 1) pe_int (nomark _))))) (pss_one (ps_raiseLow rfl TE hr (takes_of rfl rfl rfl rfl) (pa_cons pe_int pa_nil) (by rfl))) pss_nil)
    (pss_cons (ps_if (PW.pt (pw_or (pt_not (pt_val (pe_call G_is_sequence (hr.mono (by decide)) rfl d_is_sequence.g d_is_sequence.F.kp d_is_sequence.b .nil pass0 (pa_cons (pv 2) pa_nil)))) (pw_or1 (pt_cmpR op_eq (pe_callB call_len_seq (by rfl) T.len PySem.boot_len (pa_cons (pv 2) pa_nil)) pe_int (nomark _))))) (pss_one (ps_raiseLow rfl TE hr (takes_of rfl rfl rfl rfl) (pa_cons pe_int pa_nil) (by rfl))) pss_nil)
    (pss_cons (ps_for (passes_of rfl) rfl (pi_enum (by rfl) T.enumerate (pa_cons (pv 2) pa_nil)) (pg_tup rfl (pgs_cons (pg_name (i := 3) sc_Machine___init.nd rfl (Or.inl rfl)) (pgs_cons (pg_name (i := 4) sc_Machine___init.nd rfl (Or.inl rfl)) pgs_nil)))
      (pss_one (ps_if (pt_not (pt_val (pe_call G_is_entry (hr.mono (by decide)) rfl d_is_entry.g d_is_entry.F.kp d_is_entry.b .nil pass0 (pa_cons (pv 4) (pa_cons (pv 1) (pa_cons (pe_callB call_len_seq (by rfl) T.len PySem.boot_len (pa_cons (pv 2) pa_nil)) pa_nil)))))) (pss_one (ps_raiseLow rfl TE hr (takes_of rfl rfl rfl rfl) (pa_cons (pe_op op_add pe_int (pv 3)) pa_nil) (by rfl))) pss_nil)))
    (pss_cons (ps_fld (pv 0) (pv 1) rfl)
    (pss_cons (ps_fld (pv 0) (pe_callB call_len_seq (by rfl) T.len PySem.boot_len (pa_cons (pv 2) pa_nil)) rfl)
    (pss_one (ps_fld (pv 0) (pe_tupleOf (by rfl) T.tuple (pe_lc (own := [("entry", 4)]) (g := gName 4) (tt := tYes) (te := tThen (tVar 4) (kTup K)) rfl sc_Machine___init.nd (pi_list (pv 2)) (blkOk_by (N := N_Machine___init) (sc := defScope s_Machine___init) (by decide +kernel)) (fun _ _ _ _ _ => (pg_name (i := 4) sc_Machine___init.nd rfl (Or.inl rfl))) (fun _ _ _ _ _ => pts_nil) (fun _ _ _ _ _ => (pe_tupleOf (by rfl) T.tuple (pv 4))))) rfl))))))), ?_⟩
      refine ⟨_, rfl, x, dc, rfl, Dx, fun H1 S1 => ⟨isN dc, rfl, ?_⟩⟩
      -- the first test
      by_cases hb : badC dc = true
      · have kb := kB hb
        have hN : ∀ i, dc = .int i → i ≤ 0 := fun i e => by
          rw [e] at hb
          exact of_decide_eq_true hb
        cases Dx with
        | int i =>
          have i0 := hN i rfl
          show (if (!decide (0 ≤ i)) = true then _ else _)
          by_cases h0 : 0 ≤ i
          · have e0 : i = 0 := by omega
            rw [decide_eq_true h0]
            refine iteF ⟨_, rfl, rfl, _, rfl, ?_⟩
            rw [e0]
            refine iteT ⟨_, rfl, fun q hq => kb H1 q S1 hq⟩
          · rw [decide_eq_false h0]
            exact iteT (iteT ⟨_, rfl, fun q hq => kb H1 q S1 hq⟩)
        | non => exact iteT (iteT ⟨_, rfl, fun q hq => kb H1 q S1 hq⟩)
        | bl b => exact iteT (iteT ⟨_, rfl, fun q hq => kb H1 q S1 hq⟩)
        | str b => exact iteT (iteT ⟨_, rfl, fun q hq => kb H1 q S1 hq⟩)
        | lst _ _ => exact iteT (iteT ⟨_, rfl, fun q hq => kb H1 q S1 hq⟩)
        | tup _ _ => exact iteT (iteT ⟨_, rfl, fun q hq => kb H1 q S1 hq⟩)
        | dct _ => exact iteT (iteT ⟨_, rfl, fun q hq => kb H1 q S1 hq⟩)
      obtain ⟨A, rfl, A0⟩ : ∃ A : Int, dc = .int A ∧ 0 < A := by
        cases dc with
        | int i => exact ⟨i, rfl, by have : ¬ i ≤ 0 := fun q => hb (decide_eq_true q); omega⟩
        | none => exact absurd rfl hb
        | bool _ => exact absurd rfl hb
        | str _ => exact absurd rfl hb
        | list _ => exact absurd rfl hb
        | tuple _ => exact absurd rfl hb
        | dict _ => exact absurd rfl hb
      have kG' := kG (by simpa using hb) A rfl
      obtain rfl : x = V.int A := by cases Dx; rfl
      show (if (!decide (0 ≤ A)) = true then _ else _)
      rw [decide_eq_true (show 0 ≤ A by omega)]
      refine iteF ⟨_, rfl, rfl, _, rfl, ?_⟩
      rw [decide_eq_false (show ¬ V.int A = V.int 0 from fun e => by injection e with e; omega)]
      refine iteF ?_
      refine ⟨_, rfl, _, _, rfl, Dy.same S1, fun H2 S2 => ⟨false, rfl, iteT (iteT ⟨_, rfl, fun q hq => ?_⟩)⟩⟩
      have e : stepsRes A (.str z) = some 1 := rfl
      rw [e] at kG'
      exact kG' H2 q (S1.trans S2) hq
    | dct _ => 
      refine ⟨_, (pss_cons (ps_if (PW.pt (pw_or (pt_not (pt_val (pe_call G_is_number (hr.mono (by decide)) rfl d_is_number.g d_is_number.F.kp d_is_number.b .nil pass0 (pa_cons (pv 1) pa_nil)))) (pw_or1 (pt_cmpR op_eq (pv 1) pe_int (nomark _))))) (pss_one (ps_raiseLow rfl TE hr (takes_of rfl rfl rfl rfl) (pa_cons pe_int pa_nil) (by rfl))) pss_nil)
    (pss_cons (ps_if (PW.pt (pw_or (pt_not (pt_val (pe_call G_is_sequence (hr.mono (by decide)) rfl d_is_sequence.g d_is_sequence.F.kp d_is_sequence.b .nil pass0 (pa_cons (pv 2) pa_nil)))) (pw_or1 (pt_cmpR op_eq (pe_callB call_len_seq (by rfl) T.len PySem.boot_len (pa_cons (pv 2) pa_nil)) pe_int (nomark _))))) (pss_one (ps_raiseLow rfl TE hr (takes_of rfl rfl rfl rfl) (pa_cons pe_int pa_nil) (by rfl))) pss_nil)
    (pss_cons (ps_for (passes_of rfl) rfl (pi_enum (by rfl) T.enumerate (pa_cons (pv 2) pa_nil)) (pg_tup rfl (pgs_cons (pg_name (i := 3) sc_Machine___init.nd rfl (Or.inl rfl)) (pgs_cons (pg_name (i := 4) sc_Machine___init.nd rfl (Or.inl rfl)) pgs_nil)))
      (pss_one (ps_if (pt_not (pt_val (pe_call G_is_entry (hr.mono (by decide)) rfl d_is_entry.g d_is_entry.F.kp d_is_entry.b .nil pass0 (pa_cons (pv 4) (pa_cons (pv 1) (pa_cons (pe_callB call_len_seq (by rfl) T.len PySem.boot_len (pa_cons (pv 2) pa_nil)) pa_nil)))))) (pss_one (ps_raiseLow rfl TE hr (takes_of rfl rfl rfl rfl) (pa_cons (pe_op op_add pe_int (pv 3)) pa_nil) (by rfl))) pss_nil)))
    (pss_cons (ps_fld (pv 0) (pv 1) rfl)
    (pss_cons (ps_fld (pv 0) (pe_callB call_len_seq (by rfl) T.len PySem.boot_len (pa_cons (pv 2) pa_nil)) rfl)
    (pss_one (ps_fld (pv 0) (pe_tupleOf (by rfl) T.tuple (pe_lc (own := [("entry", 4)]) (g := gName 4) (tt := tYes) (te := tThen (tVar 4) (kTup K)) rfl sc_Machine___init.nd (pi_list (pv 2)) (blkOk_by (N := N_Machine___init) (sc := defScope s_Machine___init) (by decide +kernel)) (fun _ _ _ _ _ => (pg_name (i := 4) sc_Machine___init.nd rfl (Or.inl rfl))) (fun _ _ _ _ _ => pts_nil) (fun _ _ _ _ _ => (pe_tupleOf (by rfl) T.tuple (pv 4))))) rfl))))))), ?_⟩
      refine ⟨_, rfl, x, dc, rfl, Dx, fun H1 S1 => ⟨isN dc, rfl, ?_⟩⟩
      -- the first test
      by_cases hb : badC dc = true
      · have kb := kB hb
        have hN : ∀ i, dc = .int i → i ≤ 0 := fun i e => by
          rw [e] at hb
          exact of_decide_eq_true hb
        cases Dx with
        | int i =>
          have i0 := hN i rfl
          show (if (!decide (0 ≤ i)) = true then _ else _)
          by_cases h0 : 0 ≤ i
          · have e0 : i = 0 := by omega
            rw [decide_eq_true h0]
            refine iteF ⟨_, rfl, rfl, _, rfl, ?_⟩
            rw [e0]
            refine iteT ⟨_, rfl, fun q hq => kb H1 q S1 hq⟩
          · rw [decide_eq_false h0]
            exact iteT (iteT ⟨_, rfl, fun q hq => kb H1 q S1 hq⟩)
        | non => exact iteT (iteT ⟨_, rfl, fun q hq => kb H1 q S1 hq⟩)
        | bl b => exact iteT (iteT ⟨_, rfl, fun q hq => kb H1 q S1 hq⟩)
        | str b => exact iteT (iteT ⟨_, rfl, fun q hq => kb H1 q S1 hq⟩)
        | lst _ _ => exact iteT (iteT ⟨_, rfl, fun q hq => kb H1 q S1 hq⟩)
        | tup _ _ => exact iteT (iteT ⟨_, rfl, fun q hq => kb H1 q S1 hq⟩)
        | dct _ => exact iteT (iteT ⟨_, rfl, fun q hq => kb H1 q S1 hq⟩)
      obtain ⟨A, rfl, A0⟩ : ∃ A : Int, dc = .int A ∧ 0 < A := by
        cases dc with
        | int i => exact ⟨i, rfl, by have : ¬ i ≤ 0 := fun q => hb (decide_eq_true q); omega⟩
        | none => exact absurd rfl hb
        | bool _ => exact absurd rfl hb
        | str _ => exact absurd rfl hb
        | list _ => exact absurd rfl hb
        | tuple _ => exact absurd rfl hb
        | dict _ => exact absurd rfl hb
      have kG' := kG (by simpa using hb) A rfl
      obtain rfl : x = V.int A := by cases Dx; rfl
      show (if (!decide (0 ≤ A)) = true then _ else _)
      rw [decide_eq_true (show 0 ≤ A by omega)]
      refine iteF ⟨_, rfl, rfl, _, rfl, ?_⟩
      rw [decide_eq_false (show ¬ V.int A = V.int 0 from fun e => by injection e with e; omega)]
      refine iteF ?_
      refine ⟨_, rfl, _, _, rfl, Dy.same S1, fun H2 S2 => ⟨false, rfl, iteT (iteT ⟨_, rfl, fun q hq => ?_⟩)⟩⟩
      have e : stepsRes A (.dict []) = some 1 := rfl
      rw [e] at kG'
      exact kG' H2 q (S1.trans S2) hq
end
end Lk

set_option Elab.async false
set_option linter.all false
set_option maxRecDepth 100000
set_option maxHeartbeats 4000000
namespace Lk
open PySem L2
theorem MachAt.same {C : Addr} {H H' : Hp} {m : Addr} {A : Int} {us : List (Addr × List Int)} (k : Same H H') (x : MachAt C H m A us) : MachAt C H' m A us := by
  obtain ⟨dx, t, h1, h2, h3⟩ := x
  exact ⟨dx, t, k _ _ h1, k _ _ h2, fun u hu => k _ _ (h3 u hu)⟩
/-- objects that are no lists stand -/
def NL (H H' : Hp) : Prop := ∀ a o, H a = some o → (∀ xs, o ≠ .lst xs) → H' a = some o
theorem NL.of_sb {d l : Addr} {H H' : Hp} (x : SB d l H H') (D : DealAt H d l) : NL H H' := fun a o h n => by
  obtain ⟨bs, b, y⟩ := D
  refine x a o h (fun e => ?_) fun e => ?_
  · rw [e, y.hd] at h
    exact n _ (Option.some.inj h).symm
  · rw [e, y.hl] at h
    exact n _ (Option.some.inj h).symm
theorem NL.of_same {H H' : Hp} (x : Same H H') : NL H H' := fun a o h _ => x a o h
theorem NL.trans {H H1 H2 : Hp} (x : NL H H1) (y : NL H1 H2) : NL H H2 := fun a o h n => y a o (x a o h n) n
theorem NL.upd {H : Hp} {a : Addr} {xs : List V} {o : HO} (h : H a = some (.lst xs)) : NL H (L2.upd H a o) := fun b u e n => by
  by_cases q : b = a
  · rw [q, h] at e
    exact absurd (Option.some.inj e).symm (n xs)
  · rw [upd_ne q]
    exact e
theorem MachAt.nl {C : Addr} {H H' : Hp} {m : Addr} {A : Int} {us : List (Addr × List Int)} (k : NL H H') (x : MachAt C H m A us) : MachAt C H' m A us := by
  obtain ⟨dx, t, h1, h2, h3⟩ := x
  exact ⟨dx, t, k _ _ h1 (fun _ e => by cases e), k _ _ h2 (fun _ e => by cases e), fun u hu => k _ _ (h3 u hu) (fun _ e => by cases e)⟩
theorem fld_c (A n : Int) (t : Addr) : (fldM A n t).lookup ("commands" : Str) = some (.int A) := by
  unfold fldM
  rw [lookup_putF, if_neg (by decide +kernel), lookup_putF, if_neg (by decide +kernel), lookup_putF, if_pos rfl]
theorem fld_n (A n : Int) (t : Addr) : (fldM A n t).lookup ("states" : Str) = some (.int n) := by
  unfold fldM
  rw [lookup_putF, if_neg (by decide +kernel), lookup_putF, if_pos rfl]
theorem fld_s (A n : Int) (t : Addr) : (fldM A n t).lookup ("steps" : Str) = some (.ref t) := by
  unfold fldM
  rw [lookup_putF, if_pos rfl]
/-- the index of the first entry that is no command -/
def badV (A : Int) : List PyData → Nat → Option Nat
  | [], _ => none
  | e :: r, i => if isB A e = true then badV A r (i + 1) else some i
def rowRes (A : Int) (d : PyData) : Option Nat := if isS d = false then some 0 else badV A (itemsD d) 0
theorem badV_cons {A : Int} {e : PyData} {r : List PyData} {i : Nat} : badV A (e :: r) i = if isB A e = true then badV A r (i + 1) else some i := rfl
theorem badV_none {A : Int} : ∀ {ds : List PyData} {i : Nat}, badV A ds i = none → ds.all (isB A) = true
  | [], _, _ => rfl
  | d :: ds, i, h => by
    rw [badV_cons] at h
    by_cases hE : isB A d = true
    · rw [if_pos hE] at h
      rw [List.all_cons, hE, badV_none h] <;> rfl
    · rw [if_neg hE] at h
      cases h
def spState (CM : Addr) : Sp := fun vs H Q _ => ∃ (m : Addr) (x : V) (d : PyData) (A : Int) (us : List (Addr × List Int)), vs = [.ref m, x] ∧ MachAt CM H m A us ∧ Dv H x d ∧ ∀ H', Same H H' → Q (.bl (isB (us.length : Int) d)) H'
def spCommand (CM : Addr) : Sp := fun vs H Q _ => ∃ (m : Addr) (x : V) (d : PyData) (A : Int) (us : List (Addr × List Int)), vs = [.ref m, x] ∧ MachAt CM H m A us ∧ Dv H x d ∧ ∀ H', Same H H' → Q (.bl (isB A d)) H'
def intsD (d : PyData) : List Int := (itemsD d).map intD
def spChecked (CM CE : Addr) : Sp := fun vs H Q E => ∃ (m : Addr) (x : V) (d : PyData) (A : Int) (us : List (Addr × List Int)), vs = [.ref m, x] ∧ MachAt CM H m A us ∧ Dv H x d ∧ (itemsD d).length ≤ 1000 ∧
  match rowRes A d with
  | some k => ∀ H' q, Same H H' → H' q = none → E (.ref CE) (some q) (upd H' q (.xd [(("at" : Str), .int (k : Int))]))
  | none => ∀ H' t, Same H H' → H' t = some (.tup ((intsD d).map V.int)) → Q (.ref t) H'
section
variable {P : Program} {w : World} {K : PySem.W.Frag} {mg : Str → Option Value} {base : Heap} {CM : Addr}
end
end Lk

set_option Elab.async false
set_option linter.all false
set_option maxRecDepth 100000
set_option maxHeartbeats 4000000
namespace Lk
open PySem L2
/-! ### what is told of a machine -/
/-- a machine's data: A commands, rows of states -/
structure MOk (A : Int) (us : List (Addr × List Int)) : Prop where
  a0 : 0 < A
  a1 : A ≤ 1000
  n1 : us.length ≤ 1000
  rs : Rs A.toNat (rsOf us)
theorem rsOf_len (us : List (Addr × List Int)) : (rsOf us).length = us.length := List.length_map ..
/-- the column of a command -/
def col (rs : List (List Int)) (c : Nat) : List Int := rs.map fun r => r.getD c 0
theorem inB {A : Int} {ds : List PyData} (h : ds.all (isB A) = true) : ∀ c ∈ ds.map intD, 0 ≤ c ∧ c < A := fun c hc => by
  obtain ⟨d, hd, rfl⟩ := List.mem_map.mp hc
  have q := List.all_eq_true.mp h d hd
  cases d with
  | int i =>
    have q' : (decide (0 ≤ i) && decide (i < A)) = true := q
    rw [Bool.and_eq_true] at q'
    exact ⟨of_decide_eq_true q'.1, of_decide_eq_true q'.2⟩
  | none => cases q
  | bool _ => cases q
  | str _ => cases q
  | list _ => cases q
  | tuple _ => cases q
  | dict _ => cases q
theorem rowRes_in {A : Int} {d : PyData} (h : rowRes A d = none) : ∀ c ∈ intsD d, 0 ≤ c ∧ c < A := by
  unfold rowRes at h
  by_cases hs : isS d = false
  · rw [if_pos hs] at h
    cases h
  · rw [if_neg hs] at h
    exact inB (badV_none h)
theorem effs_nil (rs : List (List Int)) : effs rs [] = rng rs.length := rfl
theorem effs_snoc {A : Nat} {rs : List (List Int)} (x : Rs A rs) {ns : List Int} {c : Int} (h : ∀ z ∈ ns, 0 ≤ z ∧ z < (A : Int)) (c0 : 0 ≤ c) : comp (effs rs ns) (col rs c.toNat) = effs rs (ns ++ [c]) := by
  unfold comp effs
  rw [List.map_map]
  refine List.map_congr_left fun s hs => ?_
  have hs' := List.mem_range.mp hs
  have hl := x.led (ns := ns) (s := (s : Int)) (by omega) (by omega) h
  show (col rs c.toNat).getD (led rs (s : Int) ns).toNat 0 = led rs (s : Int) (ns ++ [c])
  have e : led rs (s : Int) (ns ++ [c]) = stp rs (led rs (s : Int) ns) c := by
    unfold led
    rw [List.foldl_append]
    rfl
  rw [e]
  unfold stp col
  have hi := item_of hl.1 hl.2 ([] : List Int)
  rw [List.getD_eq_getElem?_getD, List.getElem?_map, hi]
  rfl
def spEnd (CM CR CW : Addr) : Sp := fun vs H Q E => ∃ (m : Addr) (x y : V) (dx dy : PyData) (A : Int) (us : List (Addr × List Int)), vs = [.ref m, x, y] ∧ MachAt CM H m A us ∧ MOk A us ∧ Dv H x dx ∧ Dv H y dy ∧ (itemsD dy).length ≤ 1000 ∧
  (isB (us.length : Int) dx = false → ∀ H' q, Same H H' → H' q = none → E (.ref CR) (some q) (upd H' q (.xd [(("at" : Str), .int 0)]))) ∧
  (isB (us.length : Int) dx = true → match rowRes A dy with
    | some k => ∀ H' q, Same H H' → H' q = none → E (.ref CW) (some q) (upd H' q (.xd [(("at" : Str), .int (k : Int))]))
    | none => ∀ H', Same H H' → Q (.int (led (rsOf us) (intD dx) (intsD dy))) H')
def spResting (CM : Addr) : Sp := fun vs H Q _ => ∃ (m : Addr) (A : Int) (us : List (Addr × List Int)), vs = [.ref m] ∧ MachAt CM H m A us ∧ us.length ≤ 1000 ∧ ∀ t, H t = none → Q (.ref t) (upd H t (.tup ((rng us.length).map V.int)))
def spEffects (CM : Addr) : Sp := fun vs H Q _ => ∃ (m : Addr) (A : Int) (us : List (Addr × List Int)), vs = [.ref m] ∧ MachAt CM H m A us ∧ MOk A us ∧
  ∀ H' t (ts : List (Addr × List Int)), Same H H' → H' t = some (.tup (ts.map fun u => V.ref u.1)) → (ts.length : Int) = A → (∀ u ∈ ts, H' u.1 = some (.tup (u.2.map V.int))) → (∀ (i : Nat) u, ts[i]? = some u → u.2 = col (rsOf us) i) → Q (.ref t) H'
def spFollowed : Sp := fun vs H Q _ => ∃ (a b : Addr) (f g : List Int), vs = [.ref a, .ref b] ∧ H a = some (.tup (f.map V.int)) ∧ H b = some (.tup (g.map V.int)) ∧ f.length ≤ 1000 ∧ (∀ z ∈ f, 0 ≤ z ∧ z < (g.length : Int)) ∧
  ∀ H' t, Same H H' → H' t = some (.tup ((comp f g).map V.int)) → Q (.ref t) H'
def spEff (CM CW : Addr) : Sp := fun vs H Q E => ∃ (m : Addr) (y : V) (dy : PyData) (A : Int) (us : List (Addr × List Int)), vs = [.ref m, y] ∧ MachAt CM H m A us ∧ MOk A us ∧ Dv H y dy ∧ (itemsD dy).length ≤ 1000 ∧
  match rowRes A dy with
  | some k => ∀ H' q, Same H H' → H' q = none → E (.ref CW) (some q) (upd H' q (.xd [(("at" : Str), .int (k : Int))]))
  | none => ∀ H' t, Same H H' → H' t = some (.tup ((effs (rsOf us) (intsD dy)).map V.int)) → Q (.ref t) H'
def spEop (CM CW : Addr) : Sp := fun vs H Q E => ∃ (m : Addr) (y : V) (dy : PyData) (A : Int) (us : List (Addr × List Int)) (n : Nat), vs = [.ref m, y, .int (n : Int)] ∧ MachAt CM H m A us ∧ MOk A us ∧ Dv H y dy ∧ (itemsD dy).length ≤ 1000 ∧ n < 2 ^ 63 ∧
  match rowRes A dy with
  | some k => ∀ H' q, Same H H' → H' q = none → E (.ref CW) (some q) (upd H' q (.xd [(("at" : Str), .int (k : Int))]))
  | none => ∀ H' t, Same H H' → H' t = some (.tup ((powG 63 n (effs (rsOf us) (intsD dy)) (rng us.length)).map V.int)) → Q (.ref t) H'
section
variable {P : Program} {w : World} {K : PySem.W.Frag} {mg : Str → Option Value} {base : Heap} {CM CR CW : Addr}
end
end Lk

set_option Elab.async false
set_option linter.all false
set_option maxRecDepth 100000
set_option maxHeartbeats 4000000
namespace PySem.W
open PySem PySem.Calls PyProof.Rows
section
variable {prog : Program} {w : World} {A : Around} {E : Value → Shared → Prop} {s : Shared} {K : Frag} {h₀ : Heap} {L x C f : Addr} {m : Str → Option Value} {ox : Obj} {od : Option Obj} {b tb : Value}
/-- what != makes of an own == -/
def NeB (Q : Value → Shared → Prop) (v : Value) (s' : Shared) : Prop := ∃ c : Bool, v = .bool c ∧ Q (.bool (!c)) s'
theorem boundB {M : Model} {name : Str} {id : String} {args : List Value} {Q : Option Value → Shared → Prop} (X : K.In s.heap)
    (I : InstAt s.heap x ox C od) (hs : findIn K (.ref C) name = some (some (.builtin id))) (S : Slot "object" name id)
    (h : wpAny M A (call (.builtin id) (.ref x :: args)) (fun v => Q (some v)) E s) :
    wpAny M A (callSpecialIfBound? (.ref x) name args) Q E s := by
  simp only [callSpecialIfBound?, bindSpecialIfBound?]
  refine wpAny_holding (wpAny_bind (wpAny_bind (wpAny_bind (I.type.here ((looks_findIn X hs).here ?_)))))
  simp only [S.bind]
  refine wpAny_bind (wpAny_askSetting (wpAny_ite ?_))
  have fin : wpAny M A (call (.builtin id) ([.ref x] ++ args) >>= fun v => pure (some v)) Q E s :=
    wpAny_bind (wpAny_mono h (fun v s' h' => wpAny_pure h') fun _ _ h' => h')
  split
  · exact wpAny_bind (wpAny_pure (wpAny_pure fin))
  · exact wpAny_tryCatch (wpAny_bind (wpAny_pure (wpAny_pure fin)))
theorem ne_body {Q : Fin → Shared → Prop} (hu : A.units < cLine) (X : K.In s.heap) (I : InstAt s.heap x ox C od)
    (hq : findIn K (.ref C) "__eq__" = some (some (.ref f))) (hf : isFn K (.ref f) = true)
    (h : wpAny (model prog w) A (call (.ref f) [.ref x, b]) (fun v s' => ∃ c : Bool, v = .bool c ∧ Q (.done (.ret (.bool (!c)))) s') E s) :
    wpAny (model prog w) A (Builtin.«object.__ne__» ⟨[.ref x, b], []⟩) Q E s := by
  unfold Builtin.«object.__ne__»
  refine wpAny_bind (wpAny_of_eq (a := ((Value.ref x : Value), [b])) (by first | rfl | (simp only [slotArgs]; rfl)) ?_)
  refine wpAny_bind (wpAny_cRoomFor hu ?_)
  refine wpAny_bind (ifBound_K X I hq hf (wpAny_mono h (fun v s' hv => ?_) fun _ _ e => e))
  obtain ⟨c, rfl, q⟩ := hv
  show wpAny _ _ (do let r ← truthy (.bool c); ret (.bool (!r))) _ _ _
  exact wpAny_bind (wpAny_truthy_bool (wpAny_pure q))
theorem ne_K {Q : Value → Shared → Prop} (hu : A.units + 1 < cLine) (F : Fr h₀ L s.heap m) (X₀ : K.In h₀)
    (I : InstAt s.heap x ox C od) (hb : Looks (model prog w) s.heap (typeOf b) tb) (hn : notFirst K C tb = true)
    (hs : findIn K (.ref C) "__ne__" = some (some (.builtin "object.__ne__")))
    (ho : mroIn K C (.type "object") = some true)
    (hq : findIn K (.ref C) "__eq__" = some (some (.ref f))) (hf : isFn K (.ref f) = true)
    (h : wpAny (model prog w) A.in1 (call (.ref f) [.ref x, b]) (NeB Q) E s) :
    wpAny (model prog w) A (richCompare .NotEq (.ref x) b) Q E s := by
  have X := X₀.keeps F.keep
  have sub : Looks (model prog w) s.heap (isInstance (.ref x) (.type "object")) true := I.type.andThen (looks_mroIn X ho)
  have one : wpAny (model prog w) A (tryCompare (.ref x) (cmpInfo .NotEq).2.1 b) (fun r s' => ∃ v, r = some v ∧ Q v s') E s := by
    unfold tryCompare
    refine wpAny_bind (boundB X I hs PySem.F.cmp_object.ne (wpAny_call (codeAny_call_builtin PySem.F.cmp_object.ne.plain PySem.F.cmpEntry_ne
      (check_slot PySem.F.cmpKind_ne PySem.F.cmpSplit_ne sub (PySem.F.cmpArgs_ne _ _) (ne_body (A := A.in1) hu X I hq hf ?_)))))
    refine wpAny_mono h (fun v s' hv => ?_) fun _ _ e => e
    obtain ⟨c, rfl, q⟩ := hv
    exact ⟨c, rfl, wpAny_pure ⟨_, rfl, q⟩⟩
  unfold richCompare
  simp only [oneThing_ref]
  refine wpAny_holding (wpAny_bind (wpAny_cRoomFor (Nat.lt_of_succ_lt hu) ?_))
  refine wpAny_bind (I.type.here (wpAny_bind (hb.here ?_)))
  split
  · rename_i q
    have e : subIn K tb (.ref C) = some false := by
      rcases Bool.or_eq_true_iff.mp hn with e | e
      · rw [beq_iff_eq.mp e] at q
        simp at q
      · exact beq_iff_eq.mp e
    refine wpAny_bind ((looks_subIn X e).here ?_)
    simp only [Bool.false_eq_true, if_false]
    refine wpAny_bind (wpAny_mono one (fun r s' z => ?_) fun _ _ e => e)
    obtain ⟨v, rfl, hq⟩ := z
    exact wpAny_pure hq
  · refine wpAny_bind (wpAny_pure ?_)
    simp only [Bool.false_eq_true, if_false]
    refine wpAny_bind (wpAny_mono one (fun r s' z => ?_) fun _ _ e => e)
    obtain ⟨v, rfl, hq⟩ := z
    exact wpAny_pure hq
end
end PySem.W

set_option Elab.async false
set_option linter.all false
set_option maxRecDepth 100000
set_option maxHeartbeats 4000000
namespace Lk
open PySem L2
abbrev s_Machine___eq : Stmt := inClass (top 13) 1
abbrev N_Machine___eq : List Str := ["self", "other"]
abbrev P_Machine___eq : List Str := ["self", "other"]
theorem sc_Machine___eq : FnScope N_Machine___eq P_Machine___eq (defScope s_Machine___eq) := ⟨rfl, rfl, rfl, by decide +kernel, rfl, by decide +kernel, by decide +kernel⟩
/-- what the top says of the class for isinstance and == -/
structure TxE (K : PySem.W.Frag) (mg : Str → Option Value) (C fE : Addr) : Prop where
  g : mg "Machine" = some (.ref C)
  ha : PySem.W.findIn K (.ref C) "__class__" = some (some (.builtin "object.__class__"))
  hn : PySem.W.specialIn K (.builtin "object.__class__") "__get__" = some (some (.builtin "getset_descriptor.__get__"))
  htk : PySem.W.takesIn K (.builtin "object.__class__") = some true
  hm : PySem.W.mroIn K C (.type "object") = some true
  kS : PySem.W.kitOne K (.type "str") (.ref C) = some false
  kT : PySem.W.kitOne K (.type "tuple") (.ref C) = some false
  kC : PySem.W.kitOne K (.ref C) (.ref C) = some true
  sS : PySem.W.subIn K (.type "str") (.ref C) = some false
  sT : PySem.W.subIn K (.type "tuple") (.ref C) = some false
  eq : PySem.W.findIn K (.ref C) "__eq__" = some (some (.ref fE))
  isf : PySem.W.isFn K (.ref fE) = true
  ne : PySem.W.findIn K (.ref C) "__ne__" = some (some (.builtin "object.__ne__"))
/-- the right side of == -/
inductive Rt (C : Addr) (H : Hp) : V → Option (Int × List (Addr × List Int)) → Prop
  | str (z : Str) : Rt C H (.str z) none
  | tup {a : Addr} {xs : List V} (h : H a = some (.tup xs)) : Rt C H (.ref a) none
  | mach {a : Addr} {A : Int} {us : List (Addr × List Int)} (h : MachAt C H a A us) : Rt C H (.ref a) (some (A, us))
def rowsEq (A : Int) (us : List (Addr × List Int)) : Option (Int × List (Addr × List Int)) → Bool
  | none => false
  | some (B, vs) => decide (A = B) && decide (rsOf us = rsOf vs)
def spEqM (CM : Addr) : Sp := fun vs H Q _ => ∃ (m : Addr) (y : V) (A : Int) (us : List (Addr × List Int)) (o : Option (Int × List (Addr × List Int))), vs = [.ref m, y] ∧ MachAt CM H m A us ∧ Rt CM H y o ∧ Q (.bl (rowsEq A us o)) H
def rowP (r : List Int) : PyData := .tuple (r.map PyData.int)
theorem eqv_ints : ∀ a b : List Int, PyData.eqvAll (a.map PyData.int) (b.map PyData.int) = decide (a = b)
  | [], [] => rfl
  | [], _ :: _ => rfl
  | _ :: _, [] => rfl
  | x :: a, y :: b => by
    show ((x == y) && PyData.eqvAll (a.map PyData.int) (b.map PyData.int)) = _
    rw [eqv_ints a b]
    by_cases h : x = y
    · by_cases h2 : a = b
      · rw [h, h2]
        simp
      · rw [decide_eq_false h2, Bool.and_false]
        exact (decide_eq_false fun e => h2 (by injection e)).symm
    · have e : (x == y) = false := by simpa using h
      rw [e, Bool.false_and]
      exact (decide_eq_false fun e => h (by injection e)).symm
theorem eqv_rows : ∀ a b : List (List Int), PyData.eqvAll (a.map rowP) (b.map rowP) = decide (a = b)
  | [], [] => rfl
  | [], _ :: _ => rfl
  | _ :: _, [] => rfl
  | x :: a, y :: b => by
    show (PyData.eqvAll (x.map PyData.int) (y.map PyData.int) && PyData.eqvAll (a.map rowP) (b.map rowP)) = _
    rw [eqv_ints x y, eqv_rows a b]
    by_cases h : x = y
    · by_cases h2 : a = b
      · rw [h, h2]
        simp
      · rw [decide_eq_false h2, Bool.and_false]
        exact (decide_eq_false fun e => h2 (by injection e)).symm
    · rw [decide_eq_false h, Bool.false_and]
      exact (decide_eq_false fun e => h (by injection e)).symm
theorem canLay_rows : ∀ a : List (List Int), PyData.canLayAll0 (a.map rowP) = true
  | [] => rfl
  | x :: a => by
    show (PyData.canLayAll0 (x.map PyData.int) && PyData.canLayAll0 (a.map rowP)) = true
    rw [canLay_ints, canLay_rows a] <;> rfl
theorem depth_rows : ∀ a : List (List Int), PyData.depthAll (a.map rowP) ≤ 2
  | [] => by decide
  | x :: a => by
    have h := depth_rows a
    have h2 := depth_ints x
    show max (PyData.depth (rowP x)) (PyData.depthAll (a.map rowP)) ≤ 2
    have e : PyData.depth (rowP x) = PyData.depthAll (x.map PyData.int) + 1 := rfl
    omega
theorem shaped_rows (a : List (List Int)) : SeqAt.shaped (.tuple (a.map rowP)) = true := by
  have h1 : PyData.canLay0 (.tuple (a.map rowP)) = true := canLay_rows a
  have h2 : PyData.depth (.tuple (a.map rowP)) = PyData.depthAll (a.map rowP) + 1 := rfl
  have h3 := depth_rows a
  unfold SeqAt.shaped
  rw [h1, Bool.true_and]
  exact decide_eq_true (by omega)
theorem dp_rows {K : PySem.W.Frag} {H : Hp} : ∀ {us : List (Addr × List Int)}, (∀ u ∈ us, H u.1 = some (.tup (u.2.map V.int))) → DpAll K H (us.map fun u => V.ref u.1) ((rsOf us).map rowP)
  | [], _ => .nil
  | u :: us, h => .cons (.tup (SqT.of (h u List.mem_cons_self)) (dpAll_ints _)) (dp_rows fun v hv => h v (List.mem_cons_of_mem _ hv))
section
variable {P : Program} {w : World} {K : PySem.W.Frag} {mg : Str → Option Value} {base : Heap} {CM fE : Addr}
theorem ok_eq {f : Addr} {fd : FuncData} (F : Fun K "__eq__" "Machine.__eq__" s_Machine___eq f fd) (T : Txt mg) (TC : TxC K CM) (TE : TxE K mg CM fE) : FnOk P w K mg base CX0 1 f fd P_Machine___eq (spEqM CM) := by
  refine F.ok sc_Machine___eq (fun vs H Q E h => ?_) (fun cdv Ar outer s H vs Q E hr h => ?_)
  · obtain ⟨m, y, A, us, o, rfl, _⟩ := h
    rfl
  · obtain ⟨m, y, A, us, o, rfl, M, R, k⟩ := h
    have hu : Ar.units + 3 + 64 < cLine := by have := hr.un; simp only [Around.deeper] at this; omega
    refine ⟨_, (pss_one (ps_ret (pe_and (pe_callB call_isi (by rfl) T.isinstance PyProof.Rows.boot_isinstance (pa_cons (pv 1) (pa_cons (pe_glob (v := .ref CM) (by rfl) TE.g rfl) pa_nil)))
      (pe_and (pe_cmpR op_eq (pe_fld (pv 0) rfl) (pe_fld (pv 1) rfl) (nomark _)) (pe_one (pe_cmpR (op_eqD hu) (pe_fld (pv 0) rfl) (pe_fld (pv 1) rfl) (nomark _))))))), ?_⟩
    cases R with
    | str z => exact ⟨_, rfl, _, _, _, _, false, rfl, .own _, .base (.str z), TE.kS, false, rfl, iteF k⟩
    | tup h => exact ⟨_, rfl, _, _, _, _, false, rfl, .own _, .base (.tup h), TE.kT, false, rfl, iteF k⟩
    | @mach b B vs h =>
      obtain ⟨dx, t, h1, h2, h3⟩ := M
      obtain ⟨dx', t', h1', h2', h3'⟩ := h
      refine ⟨_, rfl, _, _, _, _, true, rfl, .own _, .base (.ins h1' TC.cl TE.ha TE.hn TE.htk TE.hm), TE.kC, true, rfl, iteT ?_⟩
      refine ⟨_, rfl, m, CM, dx, _, _, rfl, h1, TC.cl, TC.n1, fld_c _ _ _, _, rfl, b, CM, dx', _, _, rfl, h1', TC.cl, TC.n1, fld_c _ _ _, rfl, _, rfl, ?_⟩
      have hk : Q (.bl (decide (A = B) && decide (rsOf us = rsOf vs))) H := k
      by_cases hAB : A = B
      · rw [decide_eq_true hAB, Bool.true_and] at hk
        rw [decide_eq_true (show V.int A = V.int B by rw [hAB])]
        refine iteT ⟨_, rfl, m, CM, dx, _, _, rfl, h1, TC.cl, TC.n3, fld_s _ _ _, _, rfl, b, CM, dx', _, _, rfl, h1', TC.cl, TC.n3, fld_s _ _ _, _, _, Dp.tup (SqT.of h2) (dp_rows h3), Dp.tup (SqT.of h2') (dp_rows h3'), shaped_rows _, shaped_rows _, ?_⟩
        rw [show PyData.eqv (.tuple ((rsOf us).map rowP)) (.tuple ((rsOf vs).map rowP)) = PyData.eqvAll ((rsOf us).map rowP) ((rsOf vs).map rowP) from rfl, eqv_rows]
        exact hk
      · rw [decide_eq_false hAB, Bool.false_and] at hk
        rw [decide_eq_false (show ¬ V.int A = V.int B from fun e => hAB (by injection e))]
        exact iteF hk
/-! ### == and != of machines, as operators -/
def rMq (CM : Addr) (neg : Bool) : R2 := fun x y H Q => ∃ (m : Addr) (A : Int) (us : List (Addr × List Int)) (o : Option (Int × List (Addr × List Int))), x = .ref m ∧ MachAt CM H m A us ∧ Rt CM H y o ∧ Q (.bl (if neg then !(rowsEq A us o) else rowsEq A us o)) H
theorem rt_type {X : Cx} {pins : List (Addr × Obj)} {σ : St} {H : Hp} {s : Shared} {y : V} {v : Value} {o : Option (Int × List (Addr × List Int))} (I : Inv X pins σ H s) (r : RelV y v) (R : Rt CM H y o) (TE : TxE X.K X.mg CM fE) :
    ∃ tb, PySem.W.Looks (model X.prog X.w) s.heap (typeOf v) tb ∧ PySem.W.notFirst X.K CM tb = true := by
  cases R with
  | str z =>
    obtain ⟨t, rfl⟩ := (show ∃ t, v = Value.str z t from r)
    exact ⟨.type "str", .now, by unfold PySem.W.notFirst; rw [TE.sS] <;> rfl⟩
  | @tup a xs h =>
    cases (show v = Value.ref a from r)
    obtain ⟨_, _, _, ob, h1, h2, _⟩ := (show ObjOk X.prog X.w H s.heap a (.tup xs) from I.hok a _ h)
    refine ⟨.type "tuple", fun A Q E s k q => wpAny_typeOf_ref (k _ _ h1) (by rw [h2]; exact q), by unfold PySem.W.notFirst; rw [TE.sT] <;> rfl⟩
  | @mach a A us h =>
    cases (show v = Value.ref a from r)
    obtain ⟨dx, t, h1, _⟩ := h
    obtain ⟨mA, J, _⟩ := ins_get I.hok h1
    obtain ⟨od, J, _⟩ := J.look
    exact ⟨.ref CM, J.type, by simp [PySem.W.notFirst]⟩
section
variable {X : Cx} {f : Addr} {fd : FuncData} {ps : List Str}
theorem run_eq {A : Around} {pins : List (Addr × Obj)} {σ : St} {H : Hp} {s : Shared} {m : Addr} {y : V} {v : Value} {M : Int} {us : List (Addr × List Int)} {o : Option (Int × List (Addr × List Int))} {Q : VK} (F : FnOk X.prog X.w X.K X.mg X.base CX0 1 fE fd P_Machine___eq (spEqM CM)) (hb : Binds X.K fd P_Machine___eq [])
    (hr : Room 1 A) (hfr : A.frames = X.A.frames) (I : Inv X pins σ H s) (r : RelV y v) (MA : MachAt CM H m M us) (R : Rt CM H y o) (q : Q (.bl (rowsEq M us o)) H) :
    wpAny (model X.prog X.w) A (call (.ref fE) [.ref m, v]) (fun u s' => u = .bool (rowsEq M us o) ∧ ∃ H', Inv X pins σ H' s' ∧ Q (.bl (rowsEq M us o)) H') X.xe s := by
  have hsp : spEqM CM [.ref m, y] H (fun z H' => z = .bl (rowsEq M us o) ∧ Q (.bl (rowsEq M us o)) H') (fun _ _ _ => False) := ⟨m, y, M, us, o, rfl, MA, R, rfl, q⟩
  have e0 : Env0 X.prog X.w X.K X.mg X.base A X.stack s H := by
    have e := I.env0
    exact ⟨by rw [hfr]; exact e.frames, e.mod, e.bs, e.bsz, e.funs, e.frf, e.hok, e.bare⟩
  have r2 : Vals [V.ref m, y] [Value.ref m, v] := .cons rfl (.cons r .nil)
  refine wpAny_call (codeAny_mono (F.run A X.stack s H ⟨[.ref m, v], []⟩ [.ref m, v] [.ref m, y] _ _ hr e0 (by
    have := hb s [.ref m, v] I.kIn (by rfl)
    simpa using this) r2 hsp) fun r s' hq => ?_)
  cases r with
  | error e => exact False.elim hq
  | ok fl =>
    cases fl with
    | ret u =>
      obtain ⟨z, H', I', rz, ez, ex⟩ := I.after hq
      subst ez
      cases rz
      exact ⟨rfl, H', I', ex⟩
    | next => exact False.elim hq
    | brk => exact False.elim hq
    | cont => exact False.elim hq
theorem op_eqM (F : FnOk X.prog X.w X.K X.mg X.base CX0 1 fE fd P_Machine___eq (spEqM CM)) (hb : Binds X.K fd P_Machine___eq []) (TE : TxE X.K X.mg CM fE) (hr : Room 1 X.A) : OpR X (compareOp .Eq) (rMq CM false) := by
  intro pins s σ H x y v u Q I rx ry h
  obtain ⟨m, A, us, o, rfl, M, R, q⟩ := h
  cases (show v = Value.ref m from rx)
  obtain ⟨tb, ht, hn⟩ := rt_type I ry R TE
  obtain ⟨dx, t, h1, _⟩ := id M
  obtain ⟨mA, J, _⟩ := ins_get I.hok h1
  obtain ⟨od, J, _⟩ := J.look
  obtain ⟨mm, hF⟩ := I.fr
  refine PySem.W.cmp_ofEq (PySem.W.cmp_K (op := .Eq) (tb := tb) hr.units0 hF I.ok.mod.kin J ht hn TE.eq TE.isf ?_)
  refine wpAny_mono (run_eq F hb hr rfl I ry M R q) (fun u s' hu => ?_) fun _ _ z => z
  obtain ⟨rfl, H', I', q'⟩ := hu
  exact ⟨.bl _, H', I', rfl, q'⟩
theorem op_neM (F : FnOk X.prog X.w X.K X.mg X.base CX0 1 fE fd P_Machine___eq (spEqM CM)) (hb : Binds X.K fd P_Machine___eq []) (TE : TxE X.K X.mg CM fE) (hr : Room 2 X.A) : OpR X (compareOp .NotEq) (rMq CM true) := by
  intro pins s σ H x y v u Q I rx ry h
  obtain ⟨m, A, us, o, rfl, M, R, q⟩ := h
  cases (show v = Value.ref m from rx)
  obtain ⟨tb, ht, hn⟩ := rt_type I ry R TE
  obtain ⟨dx, t, h1, _⟩ := id M
  obtain ⟨mA, J, _⟩ := ins_get I.hok h1
  obtain ⟨od, J, _⟩ := J.look
  obtain ⟨mm, hF⟩ := I.fr
  have hu := hr.un
  have hr1 : Room 1 X.A.in1 := ⟨hr.hd, by have := hr.dp; show X.A.depth + 3 * 1 + 5 < _; omega, by show X.A.units + 1 + 16 * 1 + 200 < cLine; omega⟩
  refine PySem.W.cmp_ofNotEq (PySem.W.ne_K (tb := tb) (by omega) hF I.ok.mod.kin J ht hn TE.ne TE.hm TE.eq TE.isf ?_)
  refine wpAny_mono (run_eq (Q := fun z H' => Q (.bl (!(rowsEq A us o))) H') F hb hr1 rfl I ry M R q) (fun u s' hu => ?_) fun _ _ z => z
  obtain ⟨rfl, H', I', q'⟩ := hu
  exact ⟨_, rfl, .bl _, H', I', rfl, q'⟩
end
end
end Lk

set_option Elab.async false
set_option linter.all false
set_option maxRecDepth 100000
set_option maxHeartbeats 4000000
namespace Lk
open PySem L2
/-! ### what a machine is made of -/
theorem dvAll_ints {H : Hp} : ∀ ns : List Int, DvAll H (ns.map V.int) (ns.map PyData.int)
  | [] => .nil
  | _ :: ns => .cons (.int _) (dvAll_ints ns)
def lstP (r : List Int) : PyData := .list (r.map PyData.int)
theorem dv_rowsL {H : Hp} : ∀ {ts : List (Addr × List Int)}, (∀ t ∈ ts, H t.1 = some (.lst (t.2.map V.int))) → DvAll H (ts.map fun t => V.ref t.1) ((rsOf ts).map lstP)
  | [], _ => .nil
  | t :: ts, h => .cons (.lst (h t List.mem_cons_self) (dvAll_ints _)) (dv_rowsL fun u hu => h u (List.mem_cons_of_mem _ hu))
theorem dv_rowsT {H : Hp} : ∀ {ts : List (Addr × List Int)}, (∀ t ∈ ts, H t.1 = some (.tup (t.2.map V.int))) → DvAll H (ts.map fun t => V.ref t.1) ((rsOf ts).map rowP)
  | [], _ => .nil
  | t :: ts, h => .cons (.tup (h t List.mem_cons_self) (dvAll_ints _)) (dv_rowsT fun u hu => h u (List.mem_cons_of_mem _ hu))
theorem isB_ints {n : Int} : ∀ {r : List Int}, (∀ z ∈ r, 0 ≤ z ∧ z < n) → (r.map PyData.int).all (isB n) = true
  | [], _ => rfl
  | z :: r, h => by
    obtain ⟨h0, h1⟩ := h z List.mem_cons_self
    have e : isB n (.int z) = true := by
      show (decide (0 ≤ z) && decide (z < n)) = true
      rw [decide_eq_true h0, decide_eq_true h1] <;> rfl
    rw [List.map_cons, List.all_cons, e, isB_ints fun y hy => h y (List.mem_cons_of_mem _ hy)] <;> rfl
theorem intD_ints : ∀ r : List Int, (r.map PyData.int).map intD = r
  | [] => rfl
  | z :: r => by
    rw [List.map_cons, List.map_cons, intD_ints r] <;> rfl
theorem isE_lst {A : Nat} {n : Int} {r : List Int} (h : r.length = A ∧ ∀ z ∈ r, 0 ≤ z ∧ z < n) : isE A n (lstP r) = true := by
  show (true && (decide (((r.map PyData.int).length : Int) = A) && (r.map PyData.int).all (isB n))) = true
  rw [isB_ints h.2, List.length_map, h.1]
  simp
theorem isE_tup {A : Nat} {n : Int} {r : List Int} (h : r.length = A ∧ ∀ z ∈ r, 0 ≤ z ∧ z < n) : isE A n (rowP r) = true := by
  show (true && (decide (((r.map PyData.int).length : Int) = A) && (r.map PyData.int).all (isB n))) = true
  rw [isB_ints h.2, List.length_map, h.1]
  simp
theorem badAt_all {A n : Int} : ∀ {ds : List PyData} {i : Nat}, (∀ e ∈ ds, isE A n e = true) → badAt A n ds i = none
  | [], _, _ => rfl
  | d :: ds, i, h => by
    rw [badAt_cons, if_pos (h d List.mem_cons_self)]
    exact badAt_all fun e he => h e (List.mem_cons_of_mem _ he)
theorem stepsRes_ok {A : Int} {d : PyData} (h1 : isS d = true) (h2 : itemsD d ≠ []) (h3 : ∀ e ∈ itemsD d, isE A ((itemsD d).length : Int) e = true) : stepsRes A d = none := by
  unfold stepsRes
  rw [if_neg (fun q => q.elim (fun e => by rw [h1] at e; cases e) h2), badAt_all h3] <;> rfl
/-- rows, each as a list or a tuple -/
theorem stepsRes_rows {A : Nat} {rs : List (List Int)} {d : PyData} {g : List Int → PyData} (h1 : isS d = true) (h2 : itemsD d = rs.map g) (hg : ∀ (n : Int) r, r.length = A ∧ (∀ z ∈ r, 0 ≤ z ∧ z < n) → isE A n (g r) = true) (x : Rs A rs) : stepsRes A d = none := by
  refine stepsRes_ok h1 (fun e => ?_) fun e he => ?_
  · rw [h2] at e
    have := x.pos
    rw [List.map_eq_nil_iff.mp e] at this
    exact absurd this (by decide)
  · rw [h2] at he ⊢
    obtain ⟨r, hr, rfl⟩ := List.mem_map.mp he
    rw [List.length_map]
    exact hg _ r (x.row r hr)
/-- what Machine(..) makes: the number of the refusal -/
def makeRes (dc ds : PyData) : Option Int := if badC dc = true then some 0 else stepsRes (intD dc) ds
theorem make_any {CM CE : Addr} {H1 : Hp} {x y : V} {dc ds : PyData} {Q : Addr → Hp → Prop} {E : XK} (Dx : Dv H1 x dc) (Dy : Dv H1 y ds) (n1 : (itemsD ds).length ≤ 1000) (n2 : ∀ e ∈ itemsD ds, (itemsD e).length ≤ 1000)
    (h : match makeRes dc ds with
      | some k => ∀ H' q, Same H1 H' → H' q = none → E (.ref CE) (some q) (upd H' q (.xd [(("at" : Str), .int k)]))
      | none => ∀ H' m us, Same H1 H' → H1 m = none → MachAt CM H' m (intD dc) us → rsOf us = (itemsD ds).map rowD → Q m H') :
    ∀ x0 dx, H1 x0 = none → H1 dx = none → dx ≠ x0 → spInit CM CE (.ref x0 :: ([x, y] ++ [])) (upd (upd H1 dx (.own x0)) x0 (.ins CM dx [])) (fun v H2 => v = .non ∧ Q x0 H2) E := by
  intro x0 dx h0 hd hne
  have hx0 : upd H1 dx (.own x0) x0 = none := by rw [upd_ne (Ne.symm hne)]; exact h0
  have S1 : Same H1 (upd (upd H1 dx (.own x0)) x0 (.ins CM dx [])) := (Same.new hd).trans (Same.new hx0)
  refine ⟨x0, dx, x, y, dc, ds, rfl, upd_same, Dx.same S1, Dy.same S1, n1, n2, fun hb => ?_, fun hb A hA => ?_⟩
  · unfold makeRes at h
    rw [if_pos hb] at h
    exact fun H' d S' hd' => h H' d (S1.trans S') hd'
  · subst hA
    unfold makeRes at h
    rw [if_neg (by rw [hb]; decide)] at h
    have eA : intD (.int A) = A := rfl
    rw [eA] at h
    cases e : stepsRes A ds with
    | some k =>
      rw [e] at h
      exact fun H' d S' hd' => h H' d (S1.trans S') hd'
    | none =>
      rw [e] at h
      refine fun H' us kp M eR => ⟨rfl, h H' x0 us (fun a o ha => kp.get (fun q => ?_) (S1 a o ha)) h0 M eR⟩
      rw [q, h0] at ha
      cases ha
theorem pass_never {P : Program} {w : World} {X : Cx} : Passes (L2.CX P w) X E0 := fun _ _ _ _ _ _ _ ⟨_, _, _, _, _, _, _, _, _, _, _, _, he⟩ => he.elim
theorem rowD_lst (r : List Int) : rowD (lstP r) = r := intD_ints r
theorem rowD_tup (r : List Int) : rowD (rowP r) = r := intD_ints r
theorem map_rowD {g : List Int → PyData} (hg : ∀ r, rowD (g r) = r) : ∀ rs : List (List Int), (rs.map g).map rowD = rs
  | [] => rfl
  | r :: rs => by rw [List.map_cons, List.map_cons, hg, map_rowD hg rs]
/-! ### beside -/
/-- the rows of two machines side by side; rs: the rows of the first so far -/
def bR (rs2 : List (List Int)) (e f : List Int) : List Int := List.zipWith (fun s t => s * (rs2.length : Int) + t) e f
def bG' (rs2 rs : List (List Int)) : List (List Int) := rs.flatMap fun e => rs2.map (bR rs2 e)
def bG (rs1 rs2 : List (List Int)) : List (List Int) := bG' rs2 rs1
theorem Rs.beside {A : Nat} {rs1 rs2 : List (List Int)} (x : Rs A rs1) (y : Rs A rs2) : (bG rs1 rs2).length = rs1.length * rs2.length ∧ Rs A (bG rs1 rs2) := by
  have hl : (bG rs1 rs2).length = rs1.length * rs2.length := by
    unfold bG bG'
    rw [List.length_flatMap]
    simp only [List.length_map]
    rw [List.map_const', List.sum_replicate_nat]
  refine ⟨hl, by rw [hl]; exact Nat.mul_pos x.pos y.pos, fun r hr => ?_⟩
  obtain ⟨e, he, hr⟩ := List.mem_flatMap.mp hr
  obtain ⟨f, hf, rfl⟩ := List.mem_map.mp hr
  obtain ⟨e1, e2⟩ := x.row e he
  obtain ⟨f1, f2⟩ := y.row f hf
  unfold bR
  refine ⟨by rw [List.length_zipWith, e1, f1, Nat.min_self], fun z hz => ?_⟩
  obtain ⟨i, hi, rfl⟩ := List.mem_iff_getElem.mp hz
  rw [List.length_zipWith] at hi
  rw [List.getElem_zipWith, hl]
  obtain ⟨a0, a1⟩ := e2 _ (List.getElem_mem (l := e) (n := i) (by omega))
  obtain ⟨b0, b1⟩ := f2 _ (List.getElem_mem (l := f) (n := i) (by omega))
  have q1 := Int.mul_nonneg a0 (Int.natCast_nonneg rs2.length)
  have q2 : (e[i] + 1) * (rs2.length : Int) ≤ (rs1.length : Int) * (rs2.length : Int) := Int.mul_le_mul_of_nonneg_right (by omega) (by omega)
  rw [Int.add_mul] at q2
  refine ⟨by omega, ?_⟩
  rw [Int.natCast_mul]
  omega
section
variable {K : PySem.W.Frag} {te : TE} {σ : St} {H1 : Hp} {D : Addr} {Qd : Hp → Prop}
/-- a comprehension over zip of two tuples of ints of one length, into slots 5 and 6 -/
theorem lcZ {i j : Nat} {a b : Addr} {xs ys : List Int} (F : Int → Int → Int) (hl : xs.length = ys.length) (hD : H1 D = none) (hn : xs.length ≤ 1000000) (ha : SqT K H1 a (xs.map V.int)) (hb : SqT K H1 b (ys.map V.int))
    (hw : ∀ x y : V, wipe (((wipe σ [i, j]).set i (some x)).set j (some y)) [i, j] = wipe σ [i, j])
    (hs : ∀ (x y : Int) H, Same H1 H → ∀ Q : VK, (∀ H4, Same H H4 → Q (.int (F x y)) H4) → te (((wipe σ [i, j]).set i (some (.int x))).set j (some (.int y))) H Q)
    (hd : ∀ H', H' D = some (.lst ((List.zipWith F xs ys).map V.int)) → Same H1 H' → Qd H') :
    ∃ W : Nat → Nat → Hp → Prop, (∃ m, W 0 m (upd H1 D (.lst []))) ∧ ∀ k m H, W k m H →
      ((RZ.ItzT K a b).stop k H ∧ Qd H) ∨ ((RZ.ItzT K a b).go k H ∧ ∃ Nx : Hp → Prop, (∀ H', Nx H' → ∃ m', m' < m ∧ W (k + 1) m' H') ∧ ∀ x H', (RZ.ItzT K a b).yld k H x H' → gTup K 2 (gCons (gName i) (gCons (gName j) gNil)) x (wipe σ [i, j]) H' fun σ2 H2 => wipe σ2 [i, j] = wipe σ [i, j] ∧ tYes σ2 H2 fun b H3 =>
        if b = true then te σ2 H3 fun y H4 => ∃ acc, H4 D = some (.lst acc) ∧ acc.length < sizeLine ∧ Nx (upd H4 D (.lst (acc ++ [y]))) else Nx H3) := by
  refine ⟨fun k m H => m = xs.length - k ∧ k ≤ xs.length ∧ Same H1 H ∧ H D = some (.lst ((List.zipWith F (xs.take k) (ys.take k)).map V.int)), ⟨xs.length, rfl, Nat.zero_le _, (KP.new (S := fun _ => False) hD).toSame, upd_same⟩, ?_⟩
  rintro k m H ⟨rfl, hk, S, hD2⟩
  have qa := sameT S ha
  have qb := sameT S hb
  by_cases hlt : k < xs.length
  · have hlt2 : k < ys.length := by omega
    have ga : (xs.map V.int)[k]? = some (V.int xs[k]) := by rw [List.getElem?_map, List.getElem?_eq_getElem hlt] <;> rfl
    have gb : (ys.map V.int)[k]? = some (V.int ys[k]) := by rw [List.getElem?_map, List.getElem?_eq_getElem hlt2] <;> rfl
    refine .inr ⟨⟨_, _, _, _, qa, qb, ga, gb⟩, fun H => Same H1 H ∧ H D = some (.lst ((List.zipWith F (xs.take (k + 1)) (ys.take (k + 1))).map V.int)), fun H' p => ⟨xs.length - (k + 1), by omega, rfl, hlt, p.1, p.2⟩, ?_⟩
    rintro v H' ⟨T, x, y, rfl, hT, rfl, f1, f2⟩
    have ex := f1 _ qa
    rw [ga] at ex
    obtain rfl := Option.some.inj ex
    have ey := f2 _ qb
    rw [gb] at ey
    obtain rfl := Option.some.inj ey
    have ST : Same H (upd H T (.tup [V.int xs[k], V.int ys[k]])) := Same.new hT
    refine ⟨T, _, rfl, SqT.of upd_same, rfl, _, _, rfl, _, _, rfl, rfl, hw _ _, iteT (B := Same H1 (upd H T (.tup [V.int xs[k], V.int ys[k]])) ∧ (upd H T (.tup [V.int xs[k], V.int ys[k]])) D = some (.lst ((List.zipWith F (xs.take (k + 1)) (ys.take (k + 1))).map V.int))) ?_⟩
    refine hs _ _ _ (S.trans ST) _ fun H4 S4 => ⟨_, S4 _ _ (ST _ _ hD2), ?_, ((KP.same (S := fun _ => False) ((S.trans ST).trans S4)).mut hD).toSame, ?_⟩
    · rw [List.length_map, List.length_zipWith, List.length_take, List.length_take]
      exact Nat.lt_of_le_of_lt (show _ ≤ 1000000 by omega) (by decide)
    · rw [upd_same, take_next (List.getElem?_eq_getElem hlt), take_next (List.getElem?_eq_getElem hlt2), List.zipWith_append (by rw [List.length_take, List.length_take, hl]), List.map_append]
      rfl
  · have e : k = xs.length := by omega
    subst e
    refine .inl ⟨⟨_, _, qa, qb, .inl (by rw [List.length_map]; exact Nat.le_refl _)⟩, hd H ?_ S⟩
    rw [List.take_length, hl, List.take_length] at hD2
    exact hD2
end
section
variable {P : Program} {w : World} {K : PySem.W.Frag} {mg : Str → Option Value} {base : Heap} {CM CR CE : Addr}
def spBeside (CM CR : Addr) : Sp := fun vs H Q E => ∃ (m1 m2 : Addr) (A B : Int) (us ws : List (Addr × List Int)), vs = [.ref m1, .ref m2] ∧ MachAt CM H m1 A us ∧ MOk A us ∧ MachAt CM H m2 B ws ∧ MOk B ws ∧ us.length * ws.length ≤ 1000 ∧
  (A ≠ B → ∀ H' q, Same H H' → H' q = none → E (.ref CR) (some q) (upd H' q (.xd [(("at" : Str), .int 0)]))) ∧
  (A = B → ∀ H' m xs, Same H H' → H m = none → MachAt CM H' m A xs → rsOf xs = bG (rsOf us) (rsOf ws) → Q (.ref m) H')
end
end Lk

set_option Elab.async false
set_option linter.all false
set_option maxRecDepth 100000
set_option maxHeartbeats 4000000
/-! a try of which each clause binds the exception: several of them -/
namespace Lk
open PySem PySem.Spec PyProof.Rows L2
/-- the ends of a suite behind which the slot is empty again -/
def endsAs (i : Nat) (D : Ends) : Ends := { nx := fun σ' H' => D.nx (σ'.set i none) H', rt := D.rt, bk := fun σ' H' => D.bk (σ'.set i none) H', ct := fun σ' H' => D.ct (σ'.set i none) H' }
abbrev Suit := Addr → Value → Option Addr → TS
/-- what the clauses ask of an exception of the class cls: the first that takes it gets it into slot i -/
def wAll (K : PySem.W.Frag) (i : Nat) (Wo : WX) (D : Ends) : List (Value × Suit) → WX
  | [] => Wo
  | q :: r => fun cls d σ H => ∃ b, PySem.W.exmOne K cls q.1 = some b ∧ (if b = true then ∀ a, H a = none → q.2 a cls d (endsAs i D) (σ.set i (some (.ref a))) H else wAll K i Wo D r cls d σ H)
section
variable {X : Cx} {i : Nat} {n : Str}
/-- the clauses of the text, each with what its suite does -/
inductive Clauses (X : Cx) (n : Str) : List ExceptHandler → List (Value × Suit) → Prop
  | nil : Clauses X n [] []
  | cons {x : Str} {c : Value} {ts : Suit} {b : Stmt} {bs : List Stmt} {p1 p2 : Pos} {hs : List ExceptHandler} {l : List (Value × Suit)} (nm : Names X x c)
      (su : ∀ a oe cls d pn, Zc cls d oe → (∃ vs, oe.data = .fields vs) → PSs (X.suite a ((a, oe) :: pn)) (b :: bs) (ts a cls d)) (tl : Clauses X n hs l) :
      Clauses X n (.ExceptHandler (some (.Name x p1)) (some n) (b :: bs) p2 :: hs) ((c, ts) :: l)
/-- an exception at a has been noted, and stands on the ground: sI the state it left -/
structure Ground (X : Cx) (pins : List (Addr × Obj)) (σ : L2.St) (H : Hp) (cls : Value) (d : Option Addr) (a : Addr) (B : Heap) (sI s : Shared) : Prop where
  inv : Inv X pins σ H sI
  keep : ∀ b o, sI.heap.get? b = some o → b ∉ frs X.stack → B.get? b = some o
  up : sI.heap.UpToSlots s.heap
  fl : HandSPX.FlyingZ B (X.env :: X.outer) a (Zc cls d) s.heap
  fresh : H a = none
  os : s.os = sI.os
  bare : AllBare s.gens
theorem Ground.now {pins : List (Addr × Obj)} {σ : L2.St} {H : Hp} {cls : Value} {d : Option Addr} {a : Addr} {B : Heap} {sI s : Shared} (hs : X.stack = X.env :: X.outer) (g : Ground X pins σ H cls d a B sI s) : Inv X pins σ H s :=
  g.inv.landed g.keep g.fl.1 g.up g.os g.bare
/-- it lies in none of the frames -/
theorem Ground.off {pins : List (Addr × Obj)} {σ : L2.St} {H : Hp} {cls : Value} {d : Option Addr} {a : Addr} {B : Heap} {sI s : Shared} (hf : X.env.frame = some X.env.locals) (g : Ground X pins σ H cls d a B sI s) : a ≠ X.env.locals ∧ a ∉ X.fs := by
  obtain ⟨oe, vs, he, hz, hd⟩ := g.fl.there
  have no : a ∉ frs (X.env :: X.outer) := fun m => by
    obtain ⟨_, o2, e2, k⟩ := g.fl.2.2.1.mem m
    rw [he] at e2
    exact k vs ((Option.some.inj e2) ▸ hd)
  refine ⟨fun z => no (List.mem_filterMap.mpr ⟨X.env, List.mem_cons_self, by rw [hf, z]⟩), fun m => ?_⟩
  obtain ⟨e, he2, q⟩ := List.mem_filterMap.mp m
  exact no (List.mem_filterMap.mpr ⟨e, List.mem_cons_of_mem _ he2, q⟩)
theorem ground_all {pins : List (Addr × Obj)} {σ : L2.St} {H : Hp} {cls : Value} {d : Option Addr} {a : Addr} {B : Heap} {sI s : Shared} {D : Ends} {Wo : WX} (hs : X.stack = X.env :: X.outer) (hf : X.env.frame = some X.env.locals) (hN : X.N.Nodup) (hi : X.N[i]? = some n)
    (hl : X.env.kindOf n = some .local) (tk : Takes X Wo) (ok : X.calm = true → X.A.handled = none) (g : Ground X pins σ H cls d a B sI s) : ∀ {hds : List ExceptHandler} {l : List (Value × Suit)}, Clauses X n hds l → wAll X.K i Wo D l cls d σ H →
    wpAny (model X.prog X.w) X.A (handleBy (.ref a) X.env hds) (SP X pins D) X.xe s := by
  have I3 := g.now hs
  obtain ⟨oL, oF⟩ := g.off hf
  obtain ⟨oe, vs, he, hz, hd⟩ := g.fl.there
  have lk : PySem.W.Looks (model X.prog X.w) s.heap (typeOf (.ref a)) cls := fun A Q E s k q => wpAny_typeOf_ref (k _ _ he) (by rw [hz.1]; exact q)
  intro hds l cl
  induction cl with
  | nil =>
    intro w
    obtain ⟨_, _, _, ox, ws, T, oT, tT, ex, zx, dx, h1, hr⟩ := id g.fl
    refine wpAny_handleBy_nil ?_
    unfold PySem.passOn
    refine wpAny_bind (wpAny_field ex dx h1 ?_)
    rw [if_neg (show ¬ ((Value.ref T == Value.none) = true) by simp)]
    have last : wpAny (model X.prog X.w) X.A (setFlight (.ref a) X.env.frame) (fun _ z => wpAny (model X.prog X.w) X.A (throw (.ref a) : Sem Flow) (SP X pins D) X.xe z) X.xe s := by
      rw [hf]
      exact HandSPX.setFlight_upZ g.fl fun h4 q4 up4 => wpAny_throw (tk _ _ ⟨a, B, sI, pins, σ, H, cls, d, rfl, g.inv, g.keep, g.up.trans up4, .inr (.inr (by rw [hs]; exact q4)), g.fresh, g.os, g.bare, w⟩)
    first
      | exact wpAny_bind (wpAny_pure (wpAny_bind last))
      | exact wpAny_bind last
  | @cons x c ts b bs p1 p2 hs2 l2 nm su tl ih =>
    intro w
    obtain ⟨t, ht, w⟩ := w
    refine wpAny_handleBy_cons (codeAny_handlers_test ?_) (by intro q; cases q)
    have SI := I3.suite he hd g.fresh oL oF
    have read : ∀ {Q : Value → Shared → Prop} {E : Value → Shared → Prop}, Q c s → wpAny (model X.prog X.w) (X.A.mark (some (.ref a))) (eval (.Name x p1) X.env) Q E s := fun {Q E} q => by
      obtain ⟨k1, k2, k3 | ⟨k3, k4, k5⟩⟩ := nm
      · exact ld_glob (X := X.suite a ((a, oe) :: (X.pn ++ pins))) SI k1 k3 q k2
      · exact ld_blt (X := X.suite a ((a, oe) :: (X.pn ++ pins))) SI k1 k3 k4 q k5 k2
    refine read ((PySem.W.exm_one (M := model X.prog X.w) I3.kIn lk ht).here ?_)
    cases t with
    | false => exact ih w
    | true =>
      refine codeAny_handlers_suite_as (HandSPX.lands_againZ g.fl fun h4 fl4 up4 => ?_)
      have I4 : Inv X pins σ H { s with heap := h4 } := g.inv.landed g.keep fl4.1 (g.up.trans up4) g.os g.bare
      obtain ⟨o4, vs4, he4, hz4, hd4⟩ := fl4.there
      refine store_ok (X := X.suite a ((a, o4) :: (X.pn ++ pins))) (v := .ref a) (I4.suite he4 hd4 g.fresh oL oF) hN hi (.inl hl) rfl (fun s5 I5 => ?_) (.inr hl)
      refine wpAny_mono ((su a o4 cls d (X.pn ++ pins) hz4 ⟨_, hd4⟩).run [] s5 _ H _ I5 (w a g.fresh)) (fun f s6 q6 => ?_) (fun _ _ z => False.elim z)
      have gone : ∀ {σ6 : L2.St} {H6 : Hp} {Q : Shared → Prop}, Inv (X.suite a ((a, o4) :: (X.pn ++ pins))) [] σ6 H6 s6 → (∀ s7, Inv X pins (σ6.set i none) H6 s7 → Q s7) → wpAny (model X.prog X.w) X.A (do bindName X.env n .none; unbindBehindTheSuite X.env n p2) (fun _ s7 => Q s7) X.xe s6 :=
        fun {σ6 H6 Q} I6 k => gone_ok (I6.unsuite I3.ok) hN hi hl k
      cases f with
      | ret u =>
        obtain ⟨v6, σ6, H6, I6, r6, z6⟩ := q6
        exact gone I6 fun s7 I7 => ⟨_, _, _, I7, r6, z6⟩
      | next =>
        obtain ⟨σ6, H6, I6, z6⟩ := q6
        exact gone I6 fun s7 I7 => ⟨_, _, I7, z6⟩
      | cont =>
        obtain ⟨σ6, H6, I6, z6⟩ := q6
        exact gone I6 fun s7 I7 => ⟨_, _, I7, z6⟩
      | brk =>
        obtain ⟨σ6, H6, I6, z6⟩ := q6
        exact gone I6 fun s7 I7 => ⟨_, _, I7, z6⟩
theorem ps_try_all {body : List Stmt} {h0 : ExceptHandler} {hds : List ExceptHandler} {l : List (Value × Suit)} {pos : Pos} {tb : WX → TS} {Wo : WX} (hs : X.stack = X.env :: X.outer) (hf : X.env.frame = some X.env.locals) (hN : X.N.Nodup) (hi : X.N[i]? = some n) (hl : X.env.kindOf n = some .local) (tk : Takes X Wo)
    (hb : ∀ W pn xe, Takes (X.tr pn xe) W → PassesOwn (model X.prog X.w) X.A X.env xe → PSs (X.tr pn xe) body (tb W)) (cl : Clauses X n (h0 :: hds) l) : PS X (.Try body (h0 :: hds) [] [] pos) (fun D σ H => tb (wAll X.K i Wo D l) D σ H) := by
  refine ⟨fun pins s σ H D I h => wpAny_Try_except ?_⟩
  have ok := I.ok
  refine wpAny_mono ((hb (wAll X.K i Wo D l) (X.pn ++ pins) (fun e z1 => wpAny (model X.prog X.w) X.A (noteFrame e X.env) (fun _ z2 => wpAny (model X.prog X.w) X.A (setFlight e none) (fun _ z3 => wpAny (model X.prog X.w) X.A (handleBy e X.env (h0 :: hds)) (SP X pins D) X.xe z3) X.xe z2) X.xe z1)
    (fun u z xx => ?_) PassesOwn.looking).run [] s σ H D (I.toTry _) h) (fun f z q => ?_) (fun e z he => he)
  · obtain ⟨a, B, sI, _, σ2, H2, cls, d, rfl, I2, nb, up, sky, na, os, ag, w⟩ := xx
    refine Sky.land Zc.steady (show X.A.frames = some (X.env :: X.outer) by rw [ok.frames, hs]) hf (by rw [← hs]; exact sky) fun h3 fl3 up3 => ?_
    exact ground_all (s := { z with heap := h3 }) hs hf hN hi hl tk (fun hc => ok.hd hc) ⟨I2.ofTry ok, nb, up.trans up3, fl3, na, os, ag⟩ cl w
  · cases f with
    | ret u =>
      obtain ⟨v, σ2, H2, I2, r, k⟩ := q
      exact ⟨v, σ2, H2, I2.ofTry ok, r, k⟩
    | next =>
      obtain ⟨σ2, H2, I2, k⟩ := q
      exact wpAny_execs_nil ⟨σ2, H2, I2.ofTry ok, k⟩
    | cont =>
      obtain ⟨σ2, H2, I2, k⟩ := q
      exact ⟨σ2, H2, I2.ofTry ok, k⟩
    | brk =>
      obtain ⟨σ2, H2, I2, k⟩ := q
      exact ⟨σ2, H2, I2.ofTry ok, k⟩
end
end Lk

set_option Elab.async false
set_option linter.all false
set_option maxRecDepth 100000
set_option maxHeartbeats 4000000
namespace Lk
open PySem L2
/-! ### calls by keywords alone, that may raise -/
theorem Vals.rev : ∀ {xs : List V} {us : List Value}, Vals xs us → Vals xs.reverse us.reverse
  | _, _, .nil => .nil
  | x :: xs, u :: us, .cons r t => by
    rw [List.reverse_cons, List.reverse_cons]
    exact (Vals.rev t).append (.cons r .nil)
/-- the keywords stand in the reverse order of the parameters -/
theorem kbn_rev {K : PySem.W.Frag} {x qual : Str} {st : Stmt} {f : Addr} {fd : FuncData} {ps ks : List Str} {n : Nat} (F : Fun K x qual st f fd)
    (h : ∀ (kV doc pm : Value) (an : Option Addr) (cdv ct : Value) (us ws : List Value), us.length = n → ws.length = ks.length → bindArgs (PySem.W.fnOf x qual (defArgs st) (defBody st) (defScope st) .none kV doc pm an cdv ct) ⟨us, ks.zip ws⟩ = pure (ps.zip (us ++ ws.reverse))) :
    KBn K fd ps n ks (fun us ws => us ++ ws.reverse) (fun vs zs => vs ++ zs.reverse) := by
  obtain ⟨oc, od, kV, doc, pm, an, cdv, ct, osl, rfl, lk, hcd⟩ := F.ex
  exact ⟨fun s us ws _ l1 l2 => .of_eq (h kV doc pm an cdv ct us ws l1 l2), fun r1 r2 => r1.append (Vals.rev r2)⟩
section
variable {X : Cx} {CX : CXT} {k : Nat} {f C : Addr} {fd : FuncData} {ps ks : List Str} {sp : Sp} {E : St → XK} {x : Str} {p pos : Pos} {kws : List Keyword} {tk : TA} {g : List Value → List Value → List Value} {gV : List V → List V → List V}
def tKw (sp : Sp) (gV : List V → List V → List V) (m : Nat) (E : St → XK) (tk : TA) : TE := fun σ H Q => tk σ H fun zs H2 => zs.length = m ∧ sp (gV [] zs) H2 Q (E σ)
def tMkKw (C : Addr) (sp : Sp) (gV : List V → List V → List V) (m : Nat) (E : St → XK) (tk : TA) : TE := fun σ H Q => tk σ H fun zs H2 => zs.length = m ∧ ∀ x dx, H2 x = none → H2 dx = none → dx ≠ x →
  sp (gV [.ref x] zs) (upd (upd H2 dx (.own x)) x (.ins C dx [])) (fun v H3 => v = .non ∧ Q (.ref x) H3) (E σ)
theorem pe_kw (G : FnOk X.prog X.w X.K X.mg X.base CX k f fd ps sp) (room : Room k X.A) (gx : Gl X x) (mx : X.mg x = some (.ref f)) (kp : PySem.W.keepIn X.K (.ref f) = true) (bd : KBn X.K fd ps 0 ks g gV) (out : ∀ σ, PassesAt CX X σ (E σ)) (args : PK X kws tk)
    (h1 : (backToKw pos (keywordEach kws X.env)).all (·.1.isSome) = true := by rfl) (h2 : (backToKw pos (keywordEach kws X.env)).filterMap (·.1) = ks := by rfl) (h3 : (x == ("__debug__" : Str)) = false := by decide)
    (h4 : ((backTo pos (starEach [] X.env)).any (·.1) || (backToKw pos (keywordEach kws X.env)).any (·.1.isNone)) = false := by rfl) : PE X (.Call (.Name x p) [] kws pos) (tKw sp gV ks.length E tk) := by
  refine ⟨fun pins s σ H Q I h => wpAny_Call_Name_kw (ld_glob I gx mx (PySem.W.callWith_KW0 (h₀ := X.base) I.ok.mod.kin kp h1 ?_ h4) h3)⟩
  refine thn (args.run pos pins s σ H _ I h) fun ws s2 ⟨zs, H2, I2, rz, hl, q2⟩ => ⟨I2.kIn, ?_⟩
  rw [h2]
  refine wpAny_call (codeAny_mono (G.run X.A X.stack s2 H2 ⟨[], ks.zip ws⟩ (g [] ws) (gV [] zs) Q (E σ) room I2.env0 (bd.to _ [] ws I2.kIn rfl (rz.length.symm.trans hl)) (bd.rel .nil rz) q2) fun r s3 q3 => ?_)
  match r, q3 with
  | .error e, q3 => exact out σ pins H2 s2 e s3 I2 q3
  | .ok (.ret u), q3 => exact I2.after q3
  | .ok .next, q3 => exact q3.elim
  | .ok .brk, q3 => exact q3.elim
  | .ok .cont, q3 => exact q3.elim
theorem pe_mkKw (M : Mk X.K C f) (G : FnOk X.prog X.w X.K X.mg X.base CX k f fd ps sp) (room : Room (k + 1) X.A) (gx : Gl X x) (mx : X.mg x = some (.ref C)) (bd : KBn X.K fd ps 1 ks g gV) (out : ∀ σ, PassesAt CX X σ (E σ)) (args : PK X kws tk)
    (h1 : (backToKw pos (keywordEach kws X.env)).all (·.1.isSome) = true := by rfl) (h2 : (backToKw pos (keywordEach kws X.env)).filterMap (·.1) = ks := by rfl) (h3 : (x == ("__debug__" : Str)) = false := by decide)
    (h4 : ((backTo pos (starEach [] X.env)).any (·.1) || (backToKw pos (keywordEach kws X.env)).any (·.1.isNone)) = false := by rfl) : PE X (.Call (.Name x p) [] kws pos) (tMkKw C sp gV ks.length E tk) := by
  refine ⟨fun pins s σ H Q I h => wpAny_Call_Name_kw (ld_glob I gx mx (PySem.W.callWith_KW0 (h₀ := X.base) I.ok.mod.kin M.kp h1 ?_ h4) h3)⟩
  refine thn (args.run pos pins s σ H _ I h) fun ws s2 ⟨zs, H2, I2, rz, hl, q2⟩ => ⟨I2.kIn, ?_⟩
  rw [h2]
  have q := q2 (s2.heap.objs.size + 1) s2.heap.objs.size (I2.hok.fresh (Nat.le_succ _)) (I2.hok.fresh (Nat.le_refl _)) (Nat.ne_of_lt (Nat.lt_succ_self _))
  have I3 := I2.made (C := C)
  have r3 := bd.rel (Paired.cons (show RelV (V.ref (s2.heap.objs.size + 1)) (Value.ref (s2.heap.objs.size + 1)) from rfl) .nil) rz
  refine wpAny_call (make_map (f := f) I2.kIn M.makes M.init (beq_iff_eq.mp M.fn) (codeAny_mono (G.run _ X.stack _ _ ⟨[.ref (s2.heap.objs.size + 1)], ks.zip ws⟩ _ _ _ (E σ) (room.make C [] (ks.zip ws)) (I3.env0.make C [] (ks.zip ws)) (bd.to _ [.ref (s2.heap.objs.size + 1)] ws I3.kIn rfl (rz.length.symm.trans hl)) r3 q) fun r s3 q3 => ?_))
  match r, q3 with
  | .error e, q3 => exact out σ pins _ _ e s3 I3 q3
  | .ok (.ret u), q3 =>
    obtain ⟨v, H4, I4, rv, ⟨rfl, k4⟩⟩ := I3.after q3
    exact ⟨rv, V.ref (s2.heap.objs.size + 1), H4, I4, rfl, k4⟩
  | .ok .next, q3 => exact q3.elim
  | .ok .brk, q3 => exact q3.elim
  | .ok .cont, q3 => exact q3.elim
end
def resV : Option Int → V
  | some k => .int k
  | none => .non
def spRefused : Sp := fun vs H Q _ => ∃ (x y : V) (dc ds : PyData), vs = [x, y] ∧ Dv H x dc ∧ Dv H y ds ∧ (itemsD ds).length ≤ 1000 ∧ (∀ e ∈ itemsD ds, (itemsD e).length ≤ 1000) ∧ ∀ H', Same H H' → Q (resV (makeRes dc ds)) H'
/-- what the top says of the class Machine's making -/
structure McT (K : PySem.W.Frag) (mg : Str → Option Value) (CM fI : Addr) (fdI : FuncData) : Prop where
  mM : Mk K CM fI
  g : mg "Machine" = some (.ref CM)
  b : Binds K fdI P_Machine___init []
  k : KBn K fdI P_Machine___init 1 ["steps", "commands"] (fun us ws => us ++ ws.reverse) (fun vs zs => vs ++ zs.reverse)
section
variable {P : Program} {w : World} {K : PySem.W.Frag} {mg : Str → Option Value} {base : Heap} {CM CR CE CW : Addr}
end
end Lk

set_option Elab.async false
set_option linter.all false
set_option maxRecDepth 100000
set_option maxHeartbeats 4000000
namespace Lk
open PySem L2
theorem op_mul_str {X : Cx} : OpR X (binaryOp .Mult) (fun x y H Q => ∃ (z : Str) (n : Int), x = .str z ∧ y = .int n ∧ MulOk z n ∧ Q (.str (Txt.mul z n)) H) := by
  intro pins s σ H x y v u Q I rx ry h
  obtain ⟨z, n, rfl, rfl, ok, q⟩ := h
  obtain ⟨t, rfl⟩ := rx
  obtain ⟨t', rfl⟩ := ry
  exact SB.mul ok fun t2 k => ⟨.str _, H, I.tok _, ⟨_, rfl⟩, q⟩
theorem cut_to {xs : List V} {n : Nat} (h : n ≤ xs.length) : cutV xs none (some (n : Int)) = xs.take n := by
  have e1 : HT.sIx xs.length 0 none = 0 := rfl
  have e2 : HT.sIx xs.length xs.length (some (n : Int)) = n := by
    show (if (n : Int) < 0 then ((n : Int) + ((xs.length : Nat) : Int)).toNat else min (n : Int).toNat xs.length) = n
    rw [if_neg (by omega), Int.toNat_natCast, Nat.min_eq_left h]
  unfold cutV
  rw [e1, e2, List.drop_zero, Nat.sub_zero]
theorem cut_from {xs : List V} {n : Nat} (h : n ≤ xs.length) : cutV xs (some (n : Int)) none = xs.drop n := by
  have e1 : HT.sIx xs.length xs.length none = xs.length := rfl
  have e2 : HT.sIx xs.length 0 (some (n : Int)) = n := by
    show (if (n : Int) < 0 then ((n : Int) + ((xs.length : Nat) : Int)).toNat else min (n : Int).toNat xs.length) = n
    rw [if_neg (by omega), Int.toNat_natCast, Nat.min_eq_left h]
  unfold cutV
  rw [e1, e2, List.take_of_length_le (by rw [List.length_drop]; exact Nat.le_refl _)]
/-- one of six, of five, of three -/
theorem pick6 {a b c d e f v : V} {i : Nat} {P : V → Prop} (h : [a, b, c, d, e, f][i]? = some v) (ha : P a) (hb : P b) (hc : P c) (hd : P d) (he : P e) (hf : P f) : P v := by
  match i, h with
  | 0, h => exact (Option.some.inj h) ▸ ha
  | 1, h => exact (Option.some.inj h) ▸ hb
  | 2, h => exact (Option.some.inj h) ▸ hc
  | 3, h => exact (Option.some.inj h) ▸ hd
  | 4, h => exact (Option.some.inj h) ▸ he
  | 5, h => exact (Option.some.inj h) ▸ hf
  | n + 6, h => simp at h
theorem pick5 {a b c d e v : V} {i : Nat} {P : V → Prop} (h : [a, b, c, d, e][i]? = some v) (ha : P a) (hb : P b) (hc : P c) (hd : P d) (he : P e) : P v := by
  match i, h with
  | 0, h => exact (Option.some.inj h) ▸ ha
  | 1, h => exact (Option.some.inj h) ▸ hb
  | 2, h => exact (Option.some.inj h) ▸ hc
  | 3, h => exact (Option.some.inj h) ▸ hd
  | 4, h => exact (Option.some.inj h) ▸ he
  | n + 5, h => simp at h
theorem pick3 {a b c v : V} {i : Nat} {P : V → Prop} (h : [a, b, c][i]? = some v) (ha : P a) (hb : P b) (hc : P c) : P v := by
  match i, h with
  | 0, h => exact (Option.some.inj h) ▸ ha
  | 1, h => exact (Option.some.inj h) ▸ hb
  | 2, h => exact (Option.some.inj h) ▸ hc
  | n + 3, h => simp at h
theorem badAt_at {A n : Int} {e : PyData} (he : isE A n e = false) : ∀ {pre post : List PyData} {i : Nat}, (∀ d ∈ pre, isE A n d = true) → badAt A n (pre ++ e :: post) i = some (i + pre.length)
  | [], _, _, _ => by
    show badAt A n (e :: _) _ = _
    rw [badAt_cons, if_neg (by rw [he]; decide)]
    rfl
  | d :: pre, post, i, h => by
    show badAt A n (d :: (pre ++ e :: post)) i = _
    rw [badAt_cons, if_pos (h d List.mem_cons_self), badAt_at he fun x hx => h x (List.mem_cons_of_mem _ hx), List.length_cons]
    congr 1
    omega
/-- an entry in the middle is wrong -/
theorem stepsRes_at {A : Nat} {rs : List (List Int)} {i : Nat} {e : PyData} (x : Rs A rs) (hi : i < rs.length) (he : isE A (rs.length : Int) e = false) : stepsRes A (.list ((rs.take i).map lstP ++ e :: (rs.drop (i + 1)).map lstP)) = some (2 + (i : Int)) := by
  have hl : ((rs.take i).map lstP ++ e :: (rs.drop (i + 1)).map lstP).length = rs.length := by
    rw [List.length_append, List.length_cons, List.length_map, List.length_map, List.length_take, List.length_drop]
    omega
  unfold stepsRes
  rw [if_neg (fun q => q.elim (fun e => by cases e) fun e => by
    have e' : ((rs.take i).map lstP ++ _ :: (rs.drop (i + 1)).map lstP) = [] := e
    simp at e')]
  have e0 : itemsD (.list ((rs.take i).map lstP ++ e :: (rs.drop (i + 1)).map lstP)) = (rs.take i).map lstP ++ e :: (rs.drop (i + 1)).map lstP := rfl
  rw [e0, hl, badAt_at he (fun d hd => by
    obtain ⟨r, hr, rfl⟩ := List.mem_map.mp hd
    exact isE_lst (x.row r (List.mem_of_mem_take hr))), List.length_map, List.length_take, Nat.min_eq_left (by omega)]
  show some (2 + ((0 + i : Nat) : Int)) = _
  rw [Nat.zero_add]
theorem makeRes_row {A : Nat} {rs : List (List Int)} {i : Nat} {e : PyData} (hA : 0 < A) (x : Rs A rs) (hi : i < rs.length) (he : isE A (rs.length : Int) e = false) : makeRes (.int A) (.list ((rs.take i).map lstP ++ e :: (rs.drop (i + 1)).map lstP)) = some (2 + (i : Int)) := by
  unfold makeRes
  rw [if_neg (by
    show ¬ decide ((A : Int) ≤ 0) = true
    rw [decide_eq_false (by omega)]
    decide)]
  exact stepsRes_at x hi he
def spWrong : Sp := fun vs H Q _ => ∃ (d l a : Addr) (A : Nat) (ts : List (Addr × List Int)), vs = [.ref d, .int (A : Int), .ref a] ∧ DealAt H d l ∧ GridAt H a ts ∧ ¬ dl d l a ∧ (∀ t ∈ ts, ¬ dl d l t.1) ∧ RowsOk A ts ∧ 0 < A ∧ A ≤ 5 ∧ ts.length ≤ 100 ∧
  ∀ (H' : Hp) (t : Addr) (x y : V) (dc ds : PyData) (n : Int), DealAt H' d l → SB d l H H' → H' t = some (.tup [x, y, .int n]) → Dv H' x dc → Dv H' y ds → (itemsD ds).length ≤ 1000 → (∀ e ∈ itemsD ds, (itemsD e).length ≤ 1000) → makeRes dc ds = some n → Q (.ref t) H'
theorem DvAll.set {H : Hp} {v : V} {e : PyData} (De : Dv H v e) : ∀ {xs : List V} {ds : List PyData} {i : Nat}, DvAll H xs ds → DvAll H (xs.set i v) (ds.set i e)
  | _, _, _, .nil => .nil
  | _, _, 0, .cons _ t => .cons De t
  | _, _, _ + 1, .cons h t => .cons h (DvAll.set De t)
theorem all_set_false {p : PyData → Bool} {e : PyData} : ∀ {ds : List PyData} {i : Nat}, i < ds.length → p e = false → (ds.set i e).all p = false
  | [], _, h, _ => by simp at h
  | d :: ds, 0, _, he => by
    show (p e && ds.all p) = false
    rw [he, Bool.false_and]
  | d :: ds, i + 1, h, he => by
    show (p d && (ds.set i e).all p) = false
    rw [all_set_false (Nat.lt_of_succ_lt_succ h) he, Bool.and_false]
theorem dvAll_append {H : Hp} : ∀ {xs ys : List V} {ds es : List PyData}, DvAll H xs ds → DvAll H ys es → DvAll H (xs ++ ys) (ds ++ es)
  | _, _, _, _, .nil, k => k
  | _, _, _, _, .cons h t, k => .cons h (dvAll_append t k)
theorem dv_mid {H : Hp} {ts : List (Addr × List Int)} {i : Nat} {v : V} {e : PyData} {p : Addr} (rows : ∀ t ∈ ts, H t.1 = some (.lst (t.2.map V.int))) (De : Dv H v e) (hp : H p = some (.lst ((ts.map fun t => V.ref t.1).take i ++ [v] ++ (ts.map fun t => V.ref t.1).drop (i + 1)))) :
    Dv H (.ref p) (.list (((rsOf ts).take i).map lstP ++ e :: ((rsOf ts).drop (i + 1)).map lstP)) := by
  refine .lst hp ?_
  have e1 : (rsOf ts).take i = rsOf (ts.take i) := by
    unfold rsOf
    rw [List.map_take]
  have e2 : (rsOf ts).drop (i + 1) = rsOf (ts.drop (i + 1)) := by
    unfold rsOf
    rw [List.map_drop]
  rw [e1, e2, ← List.map_take, ← List.map_drop, List.append_assoc]
  exact dvAll_append (dv_rowsL fun t ht => rows t (List.mem_of_mem_take ht)) (.cons De (dv_rowsL fun t ht => rows t (List.mem_of_mem_drop ht)))
theorem size_mid {rs : List (List Int)} {i : Nat} {e : PyData} (hi : i < rs.length) (hz : rs.length ≤ 1000) (he : (itemsD e).length ≤ 1000) (hr : ∀ r ∈ rs, r.length ≤ 1000) :
    (itemsD (.list ((rs.take i).map lstP ++ e :: (rs.drop (i + 1)).map lstP))).length ≤ 1000 ∧ ∀ q ∈ itemsD (.list ((rs.take i).map lstP ++ e :: (rs.drop (i + 1)).map lstP)), (itemsD q).length ≤ 1000 := by
  have e0 : itemsD (.list ((rs.take i).map lstP ++ e :: (rs.drop (i + 1)).map lstP)) = (rs.take i).map lstP ++ e :: (rs.drop (i + 1)).map lstP := rfl
  rw [e0]
  have hrow : ∀ r ∈ rs, (itemsD (lstP r)).length ≤ 1000 := fun r hr' => by
    show (r.map PyData.int).length ≤ 1000
    rw [List.length_map]
    exact hr r hr'
  refine ⟨?_, fun q hq => ?_⟩
  · rw [List.length_append, List.length_cons, List.length_map, List.length_map, List.length_take, List.length_drop]
    omega
  · rcases List.mem_append.mp hq with h | h
    · obtain ⟨r, hr', rfl⟩ := List.mem_map.mp h
      exact hrow r (List.mem_of_mem_take hr')
    · rcases List.mem_cons.mp h with h | h
      · rw [h]
        exact he
      · obtain ⟨r, hr', rfl⟩ := List.mem_map.mp h
        exact hrow r (List.mem_of_mem_drop hr')
section
variable {P : Program} {w : World} {K : PySem.W.Frag} {mg : Str → Option Value} {base : Heap}
end
end Lk

set_option Elab.async false
set_option linter.all false
set_option maxRecDepth 100000
set_option maxHeartbeats 4000000
namespace Lk
open PySem L2
theorem rows_of {F : List Int → List Int} {ts us : List (Addr × List Int)} (hl : us.length = ts.length) (h : ∀ (i : Nat) t, us[i]? = some t → ∃ u, ts[i]? = some u ∧ t.2 = F u.2) : rsOf us = (rsOf ts).map F := by
  refine List.ext_getElem? fun k => ?_
  rw [List.getElem?_map]
  cases hk : us[k]? with
  | none =>
    have q1 : us.length ≤ k := List.getElem?_eq_none_iff.mp hk
    have q2 : (rsOf ts)[k]? = none := List.getElem?_eq_none_iff.mpr (by rw [rsOf_len]; omega)
    have q3 : (rsOf us)[k]? = none := List.getElem?_eq_none_iff.mpr (by rw [rsOf_len]; exact q1)
    rw [q2, q3] <;> rfl
  | some t =>
    obtain ⟨u, hu, e⟩ := h k t hk
    rw [rsOf_get hk, rsOf_get hu, e] <;> rfl
section
variable {K : PySem.W.Frag} {j : Nat} {te : TE} {σ : St} {H1 : Hp} {D : Addr} {Qd : Hp → Prop} {d l : Addr}
/-- rows made of a list's rows, in new lists -/
theorem lcF {a : Addr} {ts : List (Addr × List Int)} (F : List Int → List Int) (hD : H1 D = none) (hI : DealAt H1 d l) (G : GridAt H1 a ts) (na : ¬ dl d l a) (nt : ∀ t ∈ ts, ¬ dl d l t.1) (hn : ts.length ≤ 1000)
    (hs : ∀ u ∈ ts, ∀ H, DealAt H d l → SB d l H1 H → H u.1 = some (.lst (u.2.map V.int)) → ∀ Q : VK, (∀ b, H b = none → Q (.ref b) (upd H b (.lst ((F u.2).map V.int)))) → te ((wipe σ [j]).set j (some (.ref u.1))) H Q)
    (hd : ∀ us H', rsOf us = (rsOf ts).map F → NewG H1 D us → GridAt H' D us → DealAt H' d l → SB d l H1 H' → Qd H') :
    ∃ W : Nat → Nat → Hp → Prop, (∃ m, W 0 m (upd H1 D (.lst []))) ∧ ∀ i m H, W i m H →
      ((Itl K a).stop i H ∧ Qd H) ∨ ((Itl K a).go i H ∧ ∃ Nx : Hp → Prop, (∀ H', Nx H' → ∃ m', m' < m ∧ W (i + 1) m' H') ∧ ∀ x H', (Itl K a).yld i H x H' → gName j x (wipe σ [j]) H' fun σ2 H2 => wipe σ2 [j] = wipe σ [j] ∧ tYes σ2 H2 fun b H3 =>
        if b = true then te σ2 H3 fun y H4 => ∃ acc, H4 D = some (.lst acc) ∧ acc.length < sizeLine ∧ Nx (upd H4 D (.lst (acc ++ [y]))) else Nx H3) := by
  refine lcGL (K := K) (a := a) (xs := ts.map fun t => V.ref t.1) (fun i r => ∃ u, ts[i]? = some u ∧ r = F u.2) hD hI (by rw [List.length_map]; omega) (fun H3 k3 => SqL.of (k3.kp.get na G.top)) (fun i x H3 hi x3 k3 Q3 kQ => ?_) (fun us H3 hl hz hN hG x3 k3 => ?_)
  · rw [List.getElem?_map] at hi
    obtain ⟨u, hu, rfl⟩ : ∃ u, ts[i]? = some u ∧ V.ref u.1 = x := by
      cases e : ts[i]? with
      | none => rw [e] at hi; cases hi
      | some u => rw [e] at hi; exact ⟨u, rfl, Option.some.inj hi⟩
    have hm := mem_of_get hu
    exact hs u hm H3 x3 k3 (k3.kp.get (nt u hm) (G.row u hm)) Q3 fun b hb => kQ b (F u.2) _ (x3.new hb) (SB.new hb) hb upd_same ⟨u, hu, rfl⟩
  · rw [List.length_map] at hl
    exact hd us H3 (rows_of hl hz) hN hG x3 k3
/-- what is made in new tuples -/
theorem lcFT {a : Addr} {ts : List (Addr × List Int)} (hD : H1 D = none) (hI : DealAt H1 d l) (G : GridAt H1 a ts) (na : ¬ dl d l a) (nt : ∀ t ∈ ts, ¬ dl d l t.1) (hn : ts.length ≤ 1000)
    (hs : ∀ u ∈ ts, ∀ H, DealAt H d l → SB d l H1 H → H u.1 = some (.lst (u.2.map V.int)) → ∀ Q : VK, (∀ b, H b = none → Q (.ref b) (upd H b (.tup (u.2.map V.int)))) → te ((wipe σ [j]).set j (some (.ref u.1))) H Q)
    (hd : ∀ (us : List (Addr × List Int)) H', rsOf us = rsOf ts → H' D = some (.lst (us.map fun u => V.ref u.1)) → (∀ u ∈ us, H' u.1 = some (.tup (u.2.map V.int))) → (∀ u ∈ us, u.1 ≠ D) → DealAt H' d l → SB d l H1 H' → Qd H') :
    ∃ W : Nat → Nat → Hp → Prop, (∃ m, W 0 m (upd H1 D (.lst []))) ∧ ∀ i m H, W i m H →
      ((Itl K a).stop i H ∧ Qd H) ∨ ((Itl K a).go i H ∧ ∃ Nx : Hp → Prop, (∀ H', Nx H' → ∃ m', m' < m ∧ W (i + 1) m' H') ∧ ∀ x H', (Itl K a).yld i H x H' → gName j x (wipe σ [j]) H' fun σ2 H2 => wipe σ2 [j] = wipe σ [j] ∧ tYes σ2 H2 fun b H3 =>
        if b = true then te σ2 H3 fun y H4 => ∃ acc, H4 D = some (.lst acc) ∧ acc.length < sizeLine ∧ Nx (upd H4 D (.lst (acc ++ [y]))) else Nx H3) := by
  have nD : ¬ dl d l D := hI.free hD
  refine lcL (K := K) (a := a) (xs := ts.map fun t => V.ref t.1) (dl d l) (fun H => DealAt H d l) (fun i y H' => ∃ t : Addr × List Int, y = V.ref t.1 ∧ H1 t.1 = none ∧ t.1 ≠ D ∧ H' t.1 = some (.tup (t.2.map V.int)) ∧ ∃ u, ts[i]? = some u ∧ t.2 = u.2) hD nD (by rw [List.length_map]; omega) hI (fun H o x => x.upd nD)
    (fun i y H H' k ⟨t, e, h1, h2, h3, h4⟩ => ⟨t, e, h1, h2, k.get (fun q => q.elim (hI.free h1) h2) h3, h4⟩) (fun H k => SqL.of (k.get na G.top)) (fun i x H acc hi x3 k3 hDa Q kQ => ?_) (fun ys H' hl hf hD' x3 k3 => ?_)
  · rw [List.getElem?_map] at hi
    obtain ⟨u, hu, rfl⟩ : ∃ u, ts[i]? = some u ∧ V.ref u.1 = x := by
      cases e : ts[i]? with
      | none => rw [e] at hi; cases hi
      | some u => rw [e] at hi; exact ⟨u, rfl, Option.some.inj hi⟩
    have hm := mem_of_get hu
    refine hs u hm H x3 k3.sb (k3.get (nt u hm) (G.row u hm)) Q fun b hb => kQ _ _ (x3.new hb) (KP.new hb) ⟨(b, u.2), rfl, k3.free (x3.free hb) hb, fun e => ?_, upd_same, u, hu, rfl⟩
    have e' : b = D := e
    rw [e', hDa] at hb
    cases hb
  · obtain ⟨us, rfl, ht⟩ := collect (g := fun u : Addr × List Int => V.ref u.1) hf
    rw [List.length_map, List.length_map] at hl
    have hm : ∀ t ∈ us, t.1 ≠ D ∧ H' t.1 = some (.tup (t.2.map V.int)) := fun t h => by
      obtain ⟨i, hi⟩ := List.getElem?_of_mem h
      exact ⟨(ht i t hi).2.1, (ht i t hi).2.2.1⟩
    refine hd us H' ?_ hD' (fun u hu => (hm u hu).2) (fun u hu => (hm u hu).1) x3 k3.sb
    have e := rows_of (F := id) hl fun i t hi => (ht i t hi).2.2.2
    rw [e, List.map_id]
/-- over enumerate of a list, into the slots i and j -/
theorem lcE {i j : Nat} {a : Addr} {xs : List V} (S : Addr → Prop) (I : Hp → Prop) (f : Nat → V → Hp → Prop) (hD : H1 D = none) (hS : ¬ S D) (hn : xs.length ≤ 1000000) (hI : I H1) (mI : ∀ H p o, ¬ S p → I H → I (upd H p o)) (fr : ∀ H p, I H → H p = none → ¬ S p)
    (mf : ∀ i y H H', KP (fun a => S a ∨ a = D) H H' → f i y H → f i y H') (ha : ∀ H, KP S H1 H → SqL K H a xs) (hw : ∀ x y : V, wipe (((wipe σ [i, j]).set i (some x)).set j (some y)) [i, j] = wipe σ [i, j])
    (hs : ∀ k x H acc, xs[k]? = some x → I H → KP S H1 H → H D = some (.lst acc) → ∀ Q : VK, (∀ y H4, I H4 → KP S H H4 → f k y H4 → Q y H4) → te (((wipe σ [i, j]).set i (some (.int (k : Int)))).set j (some x)) H Q)
    (hd : ∀ ys H', ys.length = xs.length → (∀ i y, ys[i]? = some y → f i y H') → H' D = some (.lst ys) → I H' → KP S H1 H' → Qd H') :
    ∃ W : Nat → Nat → Hp → Prop, (∃ m, W 0 m (upd H1 D (.lst []))) ∧ ∀ k m H, W k m H →
      ((Ite K a).stop k H ∧ Qd H) ∨ ((Ite K a).go k H ∧ ∃ Nx : Hp → Prop, (∀ H', Nx H' → ∃ m', m' < m ∧ W (k + 1) m' H') ∧ ∀ x H', (Ite K a).yld k H x H' → gTup K 2 (gCons (gName i) (gCons (gName j) gNil)) x (wipe σ [i, j]) H' fun σ2 H2 => wipe σ2 [i, j] = wipe σ [i, j] ∧ tYes σ2 H2 fun b H3 =>
        if b = true then te σ2 H3 fun y H4 => ∃ acc, H4 D = some (.lst acc) ∧ acc.length < sizeLine ∧ Nx (upd H4 D (.lst (acc ++ [y]))) else Nx H3) := by
  refine ⟨fun k m H => m = xs.length - k ∧ k ≤ xs.length ∧ Lcp S I f H1 D k H, ⟨xs.length, rfl, Nat.zero_le _, Lcp.zero hD (fun H o x => mI H D o hS x) hI⟩, ?_⟩
  rintro k m H ⟨rfl, hk, p⟩
  have qa := ha H p.2.1
  by_cases hlt : k < xs.length
  · have ga : xs[k]? = some xs[k] := List.getElem?_eq_getElem hlt
    refine .inr ⟨⟨xs, _, qa, ga⟩, fun H => Lcp S I f H1 D (k + 1) H, fun H' q => ⟨xs.length - (k + 1), by omega, rfl, hlt, q⟩, ?_⟩
    rintro v H' ⟨T, x, rfl, hT, rfl, f1⟩
    have ex := f1 _ qa
    rw [ga] at ex
    obtain rfl := Option.some.inj ex
    have nT := fr _ _ p.1 hT
    have hTD : T ≠ D := fun e => by
      obtain ⟨_, _, ys, e2, _⟩ := p
      rw [e, e2] at hT
      cases hT
    obtain ⟨p1, p2, ys, e, hl, hf⟩ := p
    have pT : Lcp S I f H1 D k (upd H T (.tup [V.int (k : Int), xs[k]])) := ⟨mI _ _ _ nT p1, p2.trans (KP.new hT), ys, (upd_ne (Ne.symm hTD)).trans e, hl, fun i y hy => mf _ _ _ _ (KP.new hT) (hf i y hy)⟩
    refine ⟨T, _, rfl, SqT.of upd_same, rfl, _, _, rfl, _, _, rfl, rfl, hw _ _, iteT (B := Lcp S I f H1 D (k + 1) (upd H T (.tup [V.int (k : Int), xs[k]]))) ?_⟩
    exact hs k _ _ ys ga pT.1 pT.2.1 ((upd_ne (Ne.symm hTD)).trans e) _ fun y H4 h1 h2 h3 => pT.step hD hS (fun H o x => mI H D o hS x) mf (by omega) h1 h2 h3
  · have e : k = xs.length := by omega
    subst e
    obtain ⟨p1, p2, ys, e, hl, hf⟩ := p
    exact .inl ⟨⟨_, qa, Nat.le_refl _⟩, hd ys H hl hf e p1 p2⟩
end
end Lk

set_option Elab.async false
set_option linter.all false
set_option maxRecDepth 100000
set_option maxHeartbeats 4000000
namespace Lk
open PySem L2
/-- a deal, a drawn machine's data in lists, and a machine made of it -/
structure Game (CM : Addr) (H : Hp) (d l a m : Addr) (A : Nat) (ts us : List (Addr × List Int)) : Prop where
  D : DealAt H d l
  G : GridAt H a ts
  na : ¬ dl d l a
  nt : ∀ t ∈ ts, ¬ dl d l t.1
  R : RowsOk A ts
  A0 : 0 < A
  A5 : A ≤ 5
  hz : ts.length ≤ 100
  M : MachAt CM H m A us
  e : rsOf us = rsOf ts
theorem Game.go {CM : Addr} {H H' : Hp} {d l a m : Addr} {A : Nat} {ts us : List (Addr × List Int)} (g : Game CM H d l a m A ts us) (D' : DealAt H' d l) (S : SB d l H H') : Game CM H' d l a m A ts us :=
  ⟨D', g.G.kp S.kp g.na g.nt, g.na, g.nt, g.R, g.A0, g.A5, g.hz, g.M.nl (NL.of_sb S g.D), g.e⟩
theorem Game.new {CM : Addr} {H : Hp} {d l a m p : Addr} {o : HO} {A : Nat} {ts us : List (Addr × List Int)} (g : Game CM H d l a m A ts us) (h : H p = none) : Game CM (upd H p o) d l a m A ts us :=
  g.go (g.D.new h) (SB.new h)
theorem Game.same {CM : Addr} {H H' : Hp} {d l a m : Addr} {A : Nat} {ts us : List (Addr × List Int)} (g : Game CM H d l a m A ts us) (S : Same H H') : Game CM H' d l a m A ts us := by
  obtain ⟨bs, b, x⟩ := g.D
  exact g.go ⟨bs, b, S _ _ x.hd, S _ _ x.hl, x.pos, x.len, x.b0, x.b1⟩ (KP.same S).sb
theorem Game.rows {CM : Addr} {H : Hp} {d l a m : Addr} {A : Nat} {ts us : List (Addr × List Int)} (g : Game CM H d l a m A ts us) : Rs A (rsOf ts) := g.R.rs
theorem DealAt.same {H H' : Hp} {d l : Addr} (x : DealAt H d l) (S : Same H H') : DealAt H' d l := by
  obtain ⟨bs, b, x⟩ := x
  exact ⟨bs, b, S _ _ x.hd, S _ _ x.hl, x.pos, x.len, x.b0, x.b1⟩
/-- what the top says of == of the class -/
structure EqT (P : Program) (w : World) (K : PySem.W.Frag) (mg : Str → Option Value) (base : Heap) (CM fE : Addr) (fdE : FuncData) : Prop where
  G : FnOk P w K mg base CX0 1 fE fdE P_Machine___eq (spEqM CM)
  b : Binds K fdE P_Machine___eq []
  T : TxE K mg CM fE
theorem stepsRes_first {A : Int} {ds : List PyData} {i : Nat} {e : PyData} (hi : ds[i]? = some e) (he : isE A (ds.length : Int) e = false) (h : ∀ d ∈ ds.take i, isE A (ds.length : Int) d = true) : stepsRes A (.list ds) = some (2 + (i : Int)) := by
  have hlt := cases_list hi
  have e1 : ds = ds.take i ++ e :: ds.drop (i + 1) := by
    rw [← drop_get hi, List.take_append_drop]
  have e0 : itemsD (.list ds) = ds := rfl
  unfold stepsRes
  rw [if_neg (fun q => q.elim (fun e => by cases e) fun e => by
    have e' : ds = [] := e
    rw [e'] at hlt
    simp at hlt), e0]
  have e2 : badAt A (ds.length : Int) ds 0 = some i := by
    have q : badAt A (ds.length : Int) (ds.take i ++ e :: ds.drop (i + 1)) 0 = some (0 + (ds.take i).length) := badAt_at he h
    rw [← e1, List.length_take, Nat.min_eq_left (by omega), Nat.zero_add] at q
    exact q
  rw [e2] <;> rfl
theorem dvAll_of {H : Hp} : ∀ {xs : List V} {ds : List PyData}, xs.length = ds.length → (∀ (k : Nat) y, xs[k]? = some y → ∃ d, ds[k]? = some d ∧ Dv H y d) → DvAll H xs ds
  | [], [], _, _ => .nil
  | [], _ :: _, h, _ => by simp at h
  | _ :: _, [], h, _ => by simp at h
  | x :: xs, d :: ds, h, f => by
    obtain ⟨d', e, Dx⟩ := f 0 x rfl
    have e' : d = d' := Option.some.inj e
    rw [← e'] at Dx
    exact .cons Dx (dvAll_of (Nat.succ.inj h) fun k y hk => f (k + 1) y hk)
theorem zero_rows {A : Nat} {rs : List (List Int)} (x : Rs A rs) (h : rs.length = 1) : rs = [List.replicate A 0] := by
  match rs, h with
  | [r], _ =>
    obtain ⟨h1, h2⟩ := x.row r List.mem_cons_self
    have e : r = List.replicate A 0 := List.eq_replicate_iff.mpr ⟨h1, fun z hz => by
      have := h2 z hz
      simp at this
      omega⟩
    rw [e]
theorem makeRes_int {A : Nat} {ds : PyData} (h : 0 < A) : makeRes (.int (A : Int)) ds = stepsRes (A : Int) ds := by
  unfold makeRes
  rw [if_neg (by
    show ¬ decide ((A : Int) ≤ 0) = true
    rw [decide_eq_false (by omega)]
    decide)]
  rfl
def spUnlike (CM : Addr) : Sp := fun vs H Q _ => ∃ (d l a m : Addr) (A : Nat) (ts us : List (Addr × List Int)), vs = [.ref d, .int (A : Int), .ref a, .ref m] ∧ Game CM H d l a m A ts us ∧ ∀ H', DealAt H' d l → SB d l H H' → Q (.bl true) H'
/-- a machine of rows in lists is made -/
theorem make_rows {CM CE : Addr} {H1 : Hp} {a : Addr} {A : Nat} {ts : List (Addr × List Int)} {Q : Addr → Hp → Prop} {E : XK} (hA : 0 < A) (h5 : A ≤ 1000) (G : GridAt H1 a ts) (R : Rs A (rsOf ts)) (hz : ts.length ≤ 1000)
    (h : ∀ H' m us, Same H1 H' → H1 m = none → MachAt CM H' m (A : Int) us → rsOf us = rsOf ts → Q m H') :
    ∀ x0 dx, H1 x0 = none → H1 dx = none → dx ≠ x0 → spInit CM CE (.ref x0 :: ([.int (A : Int), .ref a] ++ [])) (upd (upd H1 dx (.own x0)) x0 (.ins CM dx [])) (fun v H2 => v = .non ∧ Q x0 H2) E := by
  refine make_any (dc := .int (A : Int)) (ds := .list ((rsOf ts).map lstP)) (.int _) (.lst G.top (dv_rowsL G.row)) ?_ (fun e he => ?_) ?_
  · show ((rsOf ts).map lstP).length ≤ 1000
    rw [List.length_map, rsOf_len]
    exact hz
  · obtain ⟨r, hr, rfl⟩ := List.mem_map.mp he
    show (r.map PyData.int).length ≤ 1000
    rw [List.length_map, (R.row r hr).1]
    exact h5
  · have e : makeRes (.int (A : Int)) (.list ((rsOf ts).map lstP)) = none := by
      unfold makeRes
      rw [if_neg (by
        show ¬ decide ((A : Int) ≤ 0) = true
        rw [decide_eq_false (by omega)]
        decide)]
      exact stepsRes_rows (A := A) (g := lstP) rfl rfl (fun n r h => isE_lst h) R
    rw [e]
    refine fun H' m us S hm M eR => h H' m us S hm M ?_
    rw [eR]
    exact map_rowD rowD_lst _
section
variable {P : Program} {w : World} {K : PySem.W.Frag} {mg : Str → Option Value} {base : Heap} {CM CE fI fE : Addr} {fdI fdE : FuncData}
end
end Lk

set_option Elab.async false
set_option linter.all false
set_option maxRecDepth 100000
set_option maxHeartbeats 4000000
namespace Lk
open PySem PySem.Spec PyProof.Rows L2
/-! ### defs that run where no repr is under way -/
structure FnG (P : Program) (w : World) (K : PySem.W.Frag) (mg : Str → Option Value) (base : Heap) (k : Nat) (f : Addr) (fd : FuncData) (ps : List Str) (sp : Sp) : Prop where
  len : ∀ vs H Q E, sp vs H Q E → vs.length = ps.length
  run : ∀ (A : Around) (outer : List Env) (s : Shared) (H : Hp) (args : Args) (us : List Value) (vs : List V) (Q : VK) (E : XK), A.guards = some [] → Room k A → Env0 P w K mg base A outer s H → BindsTo s fd args (ps.zip us) → Vals vs us → sp vs H Q E →
    codeAny (model P w) A (.call (.ref f) args) (CR CX0 outer P w H s Q E) s
section
variable {P : Program} {w : World} {K : PySem.W.Frag} {mg : Str → Option Value} {base : Heap}
theorem Fun.okG {x qual : Str} {st : Stmt} {f : Addr} {fd : FuncData} {N ps : List Str} {k : Nat} {sp : Sp} (F : Fun K x qual st f fd) (S : FnScope N ps (defScope st)) (len : ∀ vs H Q E, sp vs H Q E → vs.length = ps.length)
    (body : ∀ (cdv : Value) (A : Around) (outer : List Env) (s : Shared) (H : Hp) (vs : List V) (Q : VK) (E : XK), A.guards = some [] → Room k (A.deeper (envOfC qual (defScope st) s.heap.objs.size f cdv)) → sp vs H Q E →
      ∃ t, PSs (cxOf CX0 P w K mg base N qual (defScope st) f cdv A outer s H E).nox (defBody st) t ∧ t { nx := fun _ H' => Q .non H', rt := Q } (start N vs) H) : FnG P w K mg base (k + 1) f fd ps sp := by
  obtain ⟨oc, od, kV, doc, pm, an, cdv, ct, osl, rfl, lk, hcd⟩ := F.ex
  refine ⟨len, fun A outer s H args us vs Q E hg hr e0 hb r h => ?_⟩
  have keep : ∀ b o, base.get? b = some o → s.heap.get? b = some o := fun b o e => (e0.bs b o e).1
  have kx := e0.mod.kin.keeps keep
  have kinds : ∀ q ∈ ps.zip us, (defScope st).names.lookup q.1 = some .local ∨ ((defScope st).names.lookup q.1 = some .cell ∧ ((cellsFrom (s.heap.objs.size + 1) (defScope st).names []).lookup q.1).isSome = true) := fun q hq => by
    rcases S.par q.1 (List.of_mem_zip hq).1 with z | z
    · exact .inl z
    · exact .inr ⟨z, PySem.W.cellsFrom_some _ _ _ (.inl z)⟩
  refine codeAny_call_function hr.depth (kx _ _ lk) rfl S.co S.gen rfl (PySem.W.codeRec_of kx hcd) (hb _ _ _ _ (wpAny_newFunctionEnv_cells S.kind kinds fun env he s1 z => ?_))
  subst he
  refine ⟨(e0.mod.nolimit.keeps keep).keeps z.toInCall.keep, codeAny_func ?_⟩
  obtain ⟨t, ht, q⟩ := body cdv A outer s H vs Q E hg (hr.deeper _) h
  have I := inv_start (CX := CX0) (E := E) (mg := mg) (f := f) (cd := cdv) (qual := qual) S hr.hd e0 (len _ _ _ _ h) r z
  refine wpAny_mono (ht.nox.run [] s1 (start N vs) H _ I q) (fun fl s2 hs => ?_) fun e s2 hs => hs
  match fl, hs with
  | .ret u, ⟨v, σ2, H2, J, rv, k⟩ => exact ⟨v, H2, J.os, J.bare, J.base, J.hok, rv, k⟩
  | .next, ⟨σ2, H2, J, k⟩ => exact ⟨.non, H2, J.os, J.bare, J.base, J.hok, rfl, k⟩
  | .brk, ⟨_, _, _, k⟩ => exact k.elim
  | .cont, ⟨_, _, _, k⟩ => exact k.elim
end
section
variable {X : Cx} {k : Nat} {f : Addr} {fd : FuncData} {ps : List Str} {sp : Sp} {x : Str} {p pos : Pos} {e : Expr} {es : List Expr} {t : TA}
theorem pe_callG (G : FnG X.prog X.w X.K X.mg X.base k f fd ps sp) (quiet : X.A.guards = some []) (room : Room k X.A) (gx : Gl X x) (mx : X.mg x = some (.ref f)) (kp : PySem.W.keepIn X.K (.ref f) = true) (bd : Binds X.K fd ps []) (args : PA X (e :: es) t)
    (h1 : (x == ("__debug__" : Str)) = false := by decide) (h2 : starEach (e :: es) X.env = (false, eval e X.env) :: starEach es X.env := by rfl) (h3 : (backTo pos (starEach es X.env)).any (·.1) = false := by rfl) :
    PE X (.Call (.Name x p) (e :: es) [] pos) (tCall sp [] E0 t) := by
  refine ⟨fun pins s σ H Q I h => wpAny_Call_Name_kw (ld_glob I gx mx (PySem.W.callWith_K (h₀ := X.base) I.ok.mod.kin kp (thn (args.run pos pins s σ H _ I h) fun us s1 ⟨vs, H1, I1, r, q⟩ => ⟨I1.kIn, ?_⟩) h2 h3) h1)⟩
  have q : sp (vs ++ []) H1 Q E0 := q
  rw [List.append_nil] at q
  have hl : us.length = ps.length := by rw [← r.length]; exact G.len _ _ _ _ q
  have b := bd s1 us I1.kIn (by rw [List.append_nil]; exact hl)
  rw [List.append_nil] at b
  refine wpAny_call (codeAny_mono (G.run X.A X.stack s1 H1 ⟨us, []⟩ us vs Q E0 quiet room I1.env0 b r q) fun z s2 q2 => ?_)
  match z, q2 with
  | .error e, q2 => exact q2.elim
  | .ok (.ret u), q2 => exact I1.after q2
  | .ok .next, q2 => exact q2.elim
  | .ok .brk, q2 => exact q2.elim
  | .ok .cont, q2 => exact q2.elim
end
end Lk

set_option Elab.async false
set_option linter.all false
set_option maxRecDepth 100000
set_option maxHeartbeats 4000000
/-! the law's end, for a law that runs where no repr is under way -/
namespace Lk
open PySem PySem.Spec PyProof.Rows L2
section
variable {P : Program} {w : World} {K : PySem.W.Frag} {mg mb : Str → Option Value} {k : Nat} {fa a : Addr} {fd : FuncData} {x : Str} {sp : Sp} {s : Shared} {vs : List Value} {ns : List Int}
/-- what the law's call leaves -/
abbrev Fine (s : Shared) (r : Result) (s' : Shared) : Prop := r = .ok (.ret (.bool true)) ∧ OldK s.heap s'.heap ∧ s'.os = s.os ∧ AllBare s'.gens
/-- H: what is told of the heap, the script alone or nothing -/
theorem core_G {H : Hp} (kx : K.In s.heap) (gl : s.heap.Ns mainGlobals mg) (bl : s.heap.Ns builtinsNs mb) (bb : ∀ y : Str, y ≠ "__name__" → mb y = bootBuiltins y) (lim : s.heap.NoLimit) (gens : s.gens = #[]) (obj : s.heap.get? a = some { cls := .type "list", data := .seq vs.toArray }) (room : Room k callerA)
    (F : ∀ base : Heap, K.In base → base.Ns mainGlobals mg → FnG P w K mg base k fa fd [x] sp) (bind : ∀ (s : Shared) (u : Value), BindsTo s fd ⟨[u], []⟩ [(x, u)]) (at_a : ∀ b u, H b = some u → b = a ∧ ∃ o ys, u = .frz o (.lst ys)) (ok : HOk P w H s.heap) (un : H a ≠ none → K.lookup a = none)
    (h : sp [.ref a] H (fun v _ => v = .bl true) fun _ _ _ => False) : codeAny (model P w) callerA (.call (.ref fa) ⟨[.ref a], []⟩) (Fine s) s := by
  have other : ∀ b, b ≠ a → H b = none := fun b n => by
    cases q : H b with
    | none => rfl
    | some u => exact absurd (at_a b u q).1 n
  have stays : ∀ {b : Addr} {m : Str → Option Value}, s.heap.Ns b m → (hidT s.heap H).Ns b m := fun {b m} ⟨o, es, ep, e, d, r⟩ => by
    refine ⟨o, es, ep, hidT_get e (other b fun z => ?_), d, r⟩
    subst z
    rw [obj] at e
    cases e
    cases (show Data.seq vs.toArray _ = Data.dict es ep from d)
  have kin : K.In (hidT s.heap H) := fun b o e => hidT_get (kx b o e) (by
    cases q : H b with
    | none => rfl
    | some u =>
      have z := (at_a b u q).1
      subst z
      rw [un (by rw [q]; simp)] at e
      cases e)
  obtain ⟨mc, l1, l2⟩ := lim
  have e0 : Env0 P w K mg (hidT s.heap H) callerA [] s H := ⟨rfl, ⟨kin, stays gl, ⟨mb, stays bl, bb⟩, ⟨mc, stays l1, l2⟩⟩, fun b o e => of_hidT e, Nat.le_of_eq (hidT_size _ _), trivial, (fun b hb => by cases (show b ∈ ([] : List Addr) from hb)), ok, .of_eq gens⟩
  refine codeAny_mono ((F _ kin (stays gl)).run callerA [] s H ⟨[.ref a], []⟩ [.ref a] [.ref a] _ _ rfl room e0 (bind s (.ref a)) (.cons rfl .nil) h) fun r s2 q => ?_
  match r, q with
  | .error e, q => exact q.elim
  | .ok .next, q => exact q.elim
  | .ok .brk, q => exact q.elim
  | .ok .cont, q => exact q.elim
  | .ok (.ret u), ⟨v, H2, os, bare, ub, ok2, rv, ev⟩ =>
    have ev' : v = .bl true := ev
    subst ev'
    obtain rfl : u = Value.bool true := rv
    refine ⟨rfl, OldK.of_keep fun b o e => ?_, os, bare⟩
    cases q : H b with
    | none => exact ub.keep b o e q (by simp [frs]) (by simp)
    | some t =>
      obtain ⟨_, ob, ys, rfl⟩ := at_a b t q
      have f1 := ok b _ q
      have f2 := ok2 b _ (ub.frzs b ob _ q)
      obtain ⟨g1, _⟩ := f1
      obtain ⟨g2, _⟩ := f2
      rw [e] at g1
      cases g1
      exact g2
theorem law_callG (kx : K.In s.heap) (gl : s.heap.Ns mainGlobals mg) (bl : s.heap.Ns builtinsNs mb) (bb : ∀ y : Str, y ≠ "__name__" → mb y = bootBuiltins y) (lim : s.heap.NoLimit) (gens : s.gens = #[]) (obj : s.heap.get? a = some { cls := .type "list", data := .seq vs.toArray }) (its : IntsAre vs ns) (len : ns.length ≤ sizeLine) (room : Room k callerA)
    (F : ∀ base : Heap, K.In base → base.Ns mainGlobals mg → FnG P w K mg base k fa fd [x] sp) (bind : ∀ (s : Shared) (u : Value), BindsTo s fd ⟨[u], []⟩ [(x, u)])
    (h : ∀ H : Hp, SqL K H a (ns.map V.int) → sp [.ref a] H (fun v _ => v = .bl true) fun _ _ _ => False) : codeAny (model P w) callerA (.call (.ref fa) ⟨[.ref a], []⟩) (Fine s) s := by
  cases q : K.lookup a with
  | some o =>
    have e := kx a o q
    rw [obj] at e
    cases e
    exact core_G (H := fun _ => none) kx gl bl bb lim gens obj room F bind (fun _ _ z => by cases z) (fun _ _ z => by cases (show (none : Option HO) = some _ from z)) (fun z => absurd rfl z) (h _ (.inr ⟨_, vs.toArray, _, q, rfl, rfl, rfl, by rw [List.size_toArray, its.length]; exact len, by simpa using vals_ints its⟩))
  | none =>
    refine core_G (H := fun b => if b = a then some (.frz { cls := .type "list", data := .seq vs.toArray } (.lst (ns.map V.int))) else none) kx gl bl bb lim gens obj room F bind (fun b u z => ?_) (fun b u z => ?_) (fun _ => q) (h _ (.inl (.inr ⟨_, if_pos rfl⟩)))
    · by_cases hb : b = a
      · exact ⟨hb, _, _, (Option.some.inj ((if_pos hb).symm.trans z)).symm⟩
      · cases (if_neg hb).symm.trans z
    · by_cases hb : b = a
      · cases (if_pos hb).symm.trans z
        subst hb
        exact ⟨obj, by rw [List.length_map]; exact len, vs, _, vals_ints its, obj⟩
      · cases (if_neg hb).symm.trans z
end
theorem walk_G {l : PySem.W.OpenLaw} {n k : Nat} {q : Program} {loose : List Str} {XP : (Str → Option Value) → Heap → Prop} {YP : World → Heap → Prop} {d : DefRec} {K : Params → PySem.W.Frag} {sp : World → Sp} {x : Str} (hn : l.most = some n) (hn2 : n ≤ sizeLine) (hdf : d.params.defaults = []) (room : Room k callerA)
    (inn : ∀ (w : World) (h : Heap), YP w h → (K w.params).In h)
    (F : ∀ (w : World) (mg : Str → Option Value) (fa : Addr) (h : Heap), (K w.params).In h → h.Ns mainGlobals mg → mg d.name = some (.ref fa) → ∃ fd : FuncData, (∀ (s : Shared) (u : Value), BindsTo s fd ⟨[u], []⟩ [(x, u)]) ∧ ∀ base : Heap, (K w.params).In base → base.Ns mainGlobals mg → FnG l.prog w (K w.params) mg base k fa fd [x] (sp w))
    (h : ∀ (w : World) (H : Hp) (a : Addr) (ns : List Int), ns.length ≤ n → SqL (K w.params) H a (ns.map V.int) → sp w [.ref a] H (fun v _ => v = .bl true) fun _ _ _ => False) : PySem.W.WalkO q loose XP YP l.row.toRowW d [] (fun f vs => PySem.call f vs) := by
  refine Att.attach_call hn hdf fun w s0 s1 mg mb fa o pm cd doc a vs ns G Y ho hd hcd hmg obj its len gens => ?_
  obtain ⟨fd, b, f⟩ := F w mg fa _ (inn w _ Y) G.T.g hmg
  exact law_callG (inn w _ Y) G.T.g G.T.b G.T.builtins G.T.nolimit gens obj its (Nat.le_trans len hn2) room f b fun H hS => h w H a ns len hS
end Lk

set_option Elab.async false
set_option linter.all false
set_option maxRecDepth 100000
set_option maxHeartbeats 4000000
namespace Lk
open PySem L2
theorem joinName {te : TE} {g : TG} {rest : TS} {D : Ends} {i : Nat} {v : V} {σ : St} {H : Hp} {f : St → Hp → Prop} (e : f = tSeq (tAsg te g) rest D) (R : V → Hp → Prop) (h : ∀ Q' : VK, (∀ v H', R v H' → Q' v H') → te (σ.set i (some v)) H Q') (k : ∀ u H', R u H' → g u (σ.set i (some v)) H' (rest D)) : gName i v σ H f := by
  subst e
  exact h _ k
theorem joinNx {te : TE} {g : TG} {rest : TS} {D : Ends} {σ : St} {H : Hp} {f : St → Hp → Prop} (e : f = tSeq (tAsg te g) rest D) (R : V → Hp → Prop) (h : ∀ Q' : VK, (∀ v H', R v H' → Q' v H') → te σ H Q') (k : ∀ u H', R u H' → g u σ H' (rest D)) : f σ H := by
  subst e
  exact h _ k
theorem joinIf {c : TT} {t rest : TS} {D : Ends} {σ : St} {H : Hp} {f : St → Hp → Prop} (e : f = tSeq (tIfS c t tNext) rest D) (R : Hp → Prop) (h : ∀ Q' : Bool → Hp → Prop, (∀ H', R H' → Q' false H') → c σ H Q') (k : ∀ H', R H' → rest D σ H') : f σ H := by
  subst e
  exact h _ fun H' r => iteF (k H' r)
theorem joinNameIf {c : TT} {t rest : TS} {D : Ends} {i : Nat} {v : V} {σ : St} {H : Hp} {f : St → Hp → Prop} (e : f = tSeq (tIfS c t tNext) rest D) (R : Hp → Prop) (h : ∀ Q' : Bool → Hp → Prop, (∀ H', R H' → Q' false H') → c (σ.set i (some v)) H Q') (k : ∀ H', R H' → rest D (σ.set i (some v)) H') : gName i v σ H f := by
  subst e
  exact h _ fun H' r => iteF (k H' r)
/-- a machine of rows in tuples is made -/
theorem make_rowsT {CM CE : Addr} {H1 : Hp} {q : Addr} {A : Nat} {vs : List (Addr × List Int)} {Q : Addr → Hp → Prop} {E : XK} (hA : 0 < A) (h5 : A ≤ 1000) (hq : H1 q = some (.tup (vs.map fun u => V.ref u.1))) (rows : ∀ u ∈ vs, H1 u.1 = some (.tup (u.2.map V.int))) (R : Rs A (rsOf vs)) (hz : vs.length ≤ 1000)
    (h : ∀ H' m us, Same H1 H' → H1 m = none → MachAt CM H' m (A : Int) us → rsOf us = rsOf vs → Q m H') :
    ∀ x0 dx, H1 x0 = none → H1 dx = none → dx ≠ x0 → spInit CM CE (.ref x0 :: ([.int (A : Int), .ref q] ++ [])) (upd (upd H1 dx (.own x0)) x0 (.ins CM dx [])) (fun v H2 => v = .non ∧ Q x0 H2) E := by
  refine make_any (dc := .int (A : Int)) (ds := .tuple ((rsOf vs).map rowP)) (.int _) (.tup hq (dv_rowsT rows)) ?_ (fun e he => ?_) ?_
  · show ((rsOf vs).map rowP).length ≤ 1000
    rw [List.length_map, rsOf_len]
    exact hz
  · obtain ⟨r, hr, rfl⟩ := List.mem_map.mp he
    show (r.map PyData.int).length ≤ 1000
    rw [List.length_map, (R.row r hr).1]
    exact h5
  · have e : makeRes (.int (A : Int)) (.tuple ((rsOf vs).map rowP)) = none := by
      rw [makeRes_int hA]
      exact stepsRes_rows (A := A) (g := rowP) rfl rfl (fun n r h => isE_tup h) R
    rw [e]
    refine fun H' m us S hm M eR => h H' m us S hm M ?_
    rw [eR]
    exact map_rowD rowD_tup _
theorem Game.upd {CM : Addr} {H : Hp} {d l a m b : Addr} {A : Nat} {ts us : List (Addr × List Int)} {xs : List V} {o : HO} (g : Game CM H d l a m A ts us) (hb : H b = some (.lst xs)) (nb : ¬ dl d l b) (na : a ≠ b) (nt : ∀ t ∈ ts, t.1 ≠ b) : Game CM (L2.upd H b o) d l a m A ts us :=
  ⟨g.D.upd nb, ⟨(upd_ne na).trans g.G.top, fun t ht => (upd_ne (nt t ht)).trans (g.G.row t ht)⟩, g.na, g.nt, g.R, g.A0, g.A5, g.hz, g.M.nl (NL.upd hb), g.e⟩
theorem sb_upd {d l b : Addr} {H H' : Hp} {o : HO} (x : SB d l H H') (h : H b = none) : SB d l H (upd H' b o) := (x.kp.mut h).sb
/-- rows in tuples, in a tuple -/
structure Wh (H : Hp) (q : Addr) (vs : List (Addr × List Int)) : Prop where
  top : H q = some (.tup (vs.map fun u => V.ref u.1))
  row : ∀ u ∈ vs, H u.1 = some (.tup (u.2.map V.int))
theorem Wh.same {H H' : Hp} {q : Addr} {vs : List (Addr × List Int)} (x : Wh H q vs) (S : Same H H') : Wh H' q vs := ⟨S _ _ x.top, fun u hu => S _ _ (x.row u hu)⟩
/-- the game, with a row, and the row as it is told -/
structure Play (CM : Addr) (H : Hp) (d l a m : Addr) (A : Nat) (ts us : List (Addr × List Int)) (rq b : Addr) (ns : List Int) (dy : PyData) : Prop where
  g : Game CM H d l a m A ts us
  r : H rq = some (.tup (ns.map V.int))
  nr : ¬ dl d l rq
  nb : ¬ dl d l b
  t : (H b = some (.lst (ns.map V.int)) ∧ dy = .list (ns.map PyData.int)) ∨ (H b = some (.tup (ns.map V.int)) ∧ dy = .tuple (ns.map PyData.int))
section
variable {CM : Addr} {H H' : Hp} {d l a m rq b : Addr} {A : Nat} {ts us : List (Addr × List Int)} {ns : List Int} {dy : PyData}
theorem Play.go (x : Play CM H d l a m A ts us rq b ns dy) (D' : DealAt H' d l) (S : SB d l H H') : Play CM H' d l a m A ts us rq b ns dy :=
  ⟨x.g.go D' S, S.kp.get x.nr x.r, x.nr, x.nb, x.t.elim (fun z => .inl ⟨S.kp.get x.nb z.1, z.2⟩) fun z => .inr ⟨S.kp.get x.nb z.1, z.2⟩⟩
theorem Play.same (x : Play CM H d l a m A ts us rq b ns dy) (S : Same H H') : Play CM H' d l a m A ts us rq b ns dy := x.go (x.g.same S).D (KP.same S).sb
theorem Play.new {p : Addr} {o : HO} (x : Play CM H d l a m A ts us rq b ns dy) (h : H p = none) : Play CM (upd H p o) d l a m A ts us rq b ns dy := x.same (Same.new h)
theorem Play.dv (x : Play CM H d l a m A ts us rq b ns dy) : Dv H (.ref b) dy := by
  rcases x.t with ⟨h, rfl⟩ | ⟨h, rfl⟩
  · exact .lst h (dvAll_ints _)
  · exact .tup h (dvAll_ints _)
theorem Play.items (x : Play CM H d l a m A ts us rq b ns dy) : isS dy = true ∧ itemsD dy = ns.map PyData.int := by
  rcases x.t with ⟨h, rfl⟩ | ⟨h, rfl⟩
  · exact ⟨rfl, rfl⟩
  · exact ⟨rfl, rfl⟩
end
theorem badV_ok {A : Int} : ∀ {ns : List Int} {i : Nat}, (∀ z ∈ ns, 0 ≤ z ∧ z < A) → badV A (ns.map PyData.int) i = none
  | [], _, _ => rfl
  | z :: ns, i, h => by
    have q := h z List.mem_cons_self
    have e : isB A (.int z) = true := by
      show (decide (0 ≤ z) && decide (z < A)) = true
      rw [decide_eq_true q.1, decide_eq_true q.2] <;> rfl
    rw [List.map_cons, badV_cons, if_pos e]
    exact badV_ok fun y hy => h y (List.mem_cons_of_mem _ hy)
theorem dp_ref {K : PySem.W.Frag} {H : Hp} {v : V} {ds : List PyData} (h : Dp K H v (.tuple ds)) : ∃ a, v = .ref a := by
  cases h with
  | tup _ _ => exact ⟨_, rfl⟩
theorem dp_int {K : PySem.W.Frag} {H : Hp} {v : V} {i : Int} (h : Dp K H v (.int i)) : v = .int i := by
  cases h
  rfl
theorem powG_in {n : Nat} : ∀ {k t : Nat} {a b : List Int}, InR n a → InR n b → InR n (powG k t a b)
  | 0, _, _, _, _, hb => hb
  | k + 1, t, a, b, ha, hb => by
    unfold powG
    by_cases h : t = 0
    · rw [if_pos h]
      exact hb
    · rw [if_neg h]
      refine powG_in (ha.comp ha) ?_
      by_cases h2 : t % 2 = 1
      · rw [if_pos h2]
        exact hb.comp ha
      · rw [if_neg h2]
        exact hb
mutual
theorem dp_same {K : PySem.W.Frag} {H H' : Hp} (S : Same H H') : ∀ {v : V} {d : PyData}, Dp K H v d → Dp K H' v d
  | _, _, .non => .non
  | _, _, .bl b => .bl b
  | _, _, .int i => .int i
  | _, _, .str x => .str x
  | _, _, .lst h t => .lst (Same.seq S h) (dpAll_same S t)
  | _, _, .tup h t => .tup (sameT S h) (dpAll_same S t)
theorem dpAll_same {K : PySem.W.Frag} {H H' : Hp} (S : Same H H') : ∀ {vs : List V} {ds : List PyData}, DpAll K H vs ds → DpAll K H' vs ds
  | _, _, .nil => .nil
  | _, _, .cons h t => .cons (dp_same S h) (dpAll_same S t)
end
/-- what v is, whatever is drawn -/
def KDv (d l : Addr) (H : Hp) (v : V) (e : PyData) : Prop := ∀ H', SB d l H H' → Dv H' v e
theorem KDv.dv {d l : Addr} {H : Hp} {v : V} {e : PyData} (x : KDv d l H v e) : Dv H v e := x H (SB.refl d l H)
theorem KDv.go {d l : Addr} {H H1 : Hp} {v : V} {e : PyData} (x : KDv d l H v e) (S : SB d l H H1) : KDv d l H1 v e := fun H' S' => x H' (S.trans S')
theorem rSlA_ok {K : PySem.W.Frag} {H : Hp} {rq : Addr} {xs : List V} {lo hi : Option Int} {Q : VK} (h : SqT K H rq xs) (k : ∀ H' p, Same H H' → SqT K H' p (cutV xs lo hi) → Q (.ref p) H') : rSlA K (.ref rq) lo hi H Q := by
  refine ⟨rq, xs, rfl, h, fun e => k H rq (Same.refl _) ?_, fun _ p hp => k _ p (Same.new hp) (SqT.of upd_same)⟩
  have e2 : cutV xs lo hi = xs := by
    unfold cutV
    rw [e.1, e.2, List.drop_zero, Nat.sub_zero, List.take_length]
  rw [e2]
  exact h
theorem badV_at {A : Int} {e : PyData} (he : isB A e = false) : ∀ {ns : List Int} {post : List PyData} {i : Nat}, (∀ z ∈ ns, 0 ≤ z ∧ z < A) → badV A (ns.map PyData.int ++ e :: post) i = some (i + ns.length)
  | [], _, _, _ => by
    show badV A (e :: _) _ = _
    rw [badV_cons, if_neg (by rw [he]; decide)]
    rfl
  | z :: ns, post, i, h => by
    have q := h z List.mem_cons_self
    have e1 : isB A (.int z) = true := by
      show (decide (0 ≤ z) && decide (z < A)) = true
      rw [decide_eq_true q.1, decide_eq_true q.2] <;> rfl
    show badV A (.int z :: (ns.map PyData.int ++ e :: post)) i = _
    rw [badV_cons, if_pos e1, badV_at he fun x hx => h x (List.mem_cons_of_mem _ hx), List.length_cons]
    congr 1
    omega
theorem isB_self {n : Int} : isB n (.int n) = false := by
  show (decide (0 ≤ n) && decide (n < n)) = false
  rw [decide_eq_false (show ¬ n < n by omega), Bool.and_false]
theorem noPart {σ : St} {H : Hp} {Q : Option Int → Hp → Prop} (h : Q none H) : tNoPart σ H Q := h
theorem eqv_pair (s : Str) (i : Int) : PyData.eqv (.tuple [.str s, .int i]) (.tuple [.str s, .int i]) = true := by
  show ((s == s) && ((i == i) && true)) = true
  simp
theorem shaped_row (i : Int) : SeqAt.shaped (.tuple [.str "row", .int i]) = true := by
  have h1 : PyData.canLay0 (.tuple [.str "row", .int i]) = true := by
    show (PyData.canLay0 (.str "row") && (true && true)) = true
    rw [show PyData.canLay0 (.str "row") = true by decide +kernel] <;> rfl
  have h2 : PyData.depth (.tuple [.str "row", .int i]) ≤ 64 := by
    show max 0 (max 0 0) + 1 ≤ 64
    decide
  unfold SeqAt.shaped
  rw [h1, Bool.true_and]
  exact decide_eq_true h2
theorem shaped_ref (i : Int) : SeqAt.shaped (.tuple [.str "refused", .int i]) = true := by
  have h1 : PyData.canLay0 (.tuple [.str "refused", .int i]) = true := by
    show (PyData.canLay0 (.str "refused") && (true && true)) = true
    rw [show PyData.canLay0 (.str "refused") = true by decide +kernel] <;> rfl
  have h2 : PyData.depth (.tuple [.str "refused", .int i]) ≤ 64 := by
    show max 0 (max 0 0) + 1 ≤ 64
    decide
  unfold SeqAt.shaped
  rw [h1, Bool.true_and]
  exact decide_eq_true h2
theorem rowRes_no {A : Int} {e : PyData} (h : isS e = false) : rowRes A e = some 0 := by
  unfold rowRes
  rw [if_pos h]
theorem rows_ok {A : Nat} {os : List (Addr × List Int)} (x : Rs A (rsOf os)) : RowsOk A os := by
  refine ⟨by have := x.pos; rw [rsOf_len] at this; exact this, fun t ht => ?_⟩
  have := x.row t.2 (List.mem_map.mpr ⟨t, ht, rfl⟩)
  rw [rsOf_len] at this
  exact this
end Lk

set_option Elab.async false
set_option linter.all false
set_option maxRecDepth 100000
set_option maxHeartbeats 4000000
/-! texts: lines and words -/
namespace Lk
open PySem L2
def chr1 (c : Nat) : Str := ⟨#[c]⟩
def free (c : Nat) (x : Str) : Prop := c ∉ x.cps.toList
theorem str_eq {x y : Str} (h : x.cps.toList = y.cps.toList) : x = y := Str.ext' (Array.toList_inj.mp h)
theorem join_two (c : Nat) (x y : Str) (r : List Str) : (Str.join (chr1 c) (x :: y :: r)).cps.toList = x.cps.toList ++ c :: (Str.join (chr1 c) (y :: r)).cps.toList := by
  show (x ++ chr1 c ++ Str.join (chr1 c) (y :: r)).cps.toList = _
  rw [Str.cps_append, Str.cps_append, Array.toList_append, Array.toList_append, List.append_assoc]
  rfl
theorem cut_uniq {c : Nat} : ∀ {a b r s : List Nat}, c ∉ a → c ∉ b → a ++ c :: r = b ++ c :: s → a = b ∧ r = s
  | [], [], _, _, _, _, h => ⟨rfl, (List.cons.inj h).2⟩
  | [], y :: b, _, _, _, hb, h => absurd (by rw [(List.cons.inj h).1]; exact List.mem_cons_self) hb
  | x :: a, [], _, _, ha, _, h => absurd (by rw [← (List.cons.inj h).1]; exact List.mem_cons_self) ha
  | x :: a, y :: b, _, _, ha, hb, h => by
    obtain ⟨h1, h2⟩ := List.cons.inj h
    obtain ⟨e1, e2⟩ := cut_uniq (fun q => ha (List.mem_cons_of_mem _ q)) (fun q => hb (List.mem_cons_of_mem _ q)) h2
    exact ⟨by rw [h1, e1], e2⟩
theorem join_inj {c : Nat} : ∀ {xs ys : List Str}, xs ≠ [] → ys ≠ [] → (∀ x ∈ xs, free c x) → (∀ y ∈ ys, free c y) → Str.join (chr1 c) xs = Str.join (chr1 c) ys → xs = ys
  | [], _, h, _, _, _, _ => absurd rfl h
  | _ :: _, [], _, h, _, _, _ => absurd rfl h
  | [x], [y], _, _, _, _, h => by
    have e : x = y := h
    rw [e]
  | [x], y :: z :: r, _, _, hx, _, h => by
    have e := congrArg (fun s : Str => s.cps.toList) h
    simp only [join_two] at e
    refine absurd ?_ (hx x List.mem_cons_self)
    have e2 : x.cps.toList = y.cps.toList ++ c :: (Str.join (chr1 c) (z :: r)).cps.toList := e
    rw [e2]
    exact List.mem_append_right _ List.mem_cons_self
  | x :: z :: r, [y], _, _, _, hy, h => by
    have e := congrArg (fun s : Str => s.cps.toList) h
    simp only [join_two] at e
    refine absurd ?_ (hy y List.mem_cons_self)
    have e2 : x.cps.toList ++ c :: (Str.join (chr1 c) (z :: r)).cps.toList = y.cps.toList := e
    rw [← e2]
    exact List.mem_append_right _ List.mem_cons_self
  | x :: z :: r, y :: w :: s, _, _, hx, hy, h => by
    have e := congrArg (fun s : Str => s.cps.toList) h
    simp only [join_two] at e
    obtain ⟨e1, e2⟩ := cut_uniq (hx x List.mem_cons_self) (hy y List.mem_cons_self) e
    have ih := join_inj (xs := z :: r) (ys := w :: s) (by simp) (by simp) (fun q hq => hx q (List.mem_cons_of_mem _ hq)) (fun q hq => hy q (List.mem_cons_of_mem _ hq)) (str_eq e2)
    rw [str_eq e1, ih]
theorem split_ne (x : Str) (c : Nat) : Txt.split x (chr1 c) ≠ [] := by
  intro h
  have e := StrLaws.join_split x (chr1 c)
  rw [h] at e
  have ex : x = Str.empty := e.symm
  rw [ex] at h
  unfold Txt.split at h
  rw [if_pos (by rfl)] at h
  cases h
theorem split_join {c : Nat} {xs : List Str} (h : xs ≠ []) (hx : ∀ x ∈ xs, free c x) : Txt.split (Txt.join (chr1 c) xs) (chr1 c) = xs := by
  have ej : Txt.join (chr1 c) xs = Str.join (chr1 c) xs := StrLaws.glued_eq_join _ _
  refine join_inj (split_ne _ _) h (fun y hy => StrLaws.split_free _ c y hy) hx ?_
  rw [← ej]
  exact StrLaws.join_split _ _
/-- what a word of one or two figures tells -/
def numL : List Nat → Option Int
  | [c] => if 48 ≤ c ∧ c ≤ 57 then some ((c : Int) - 48) else none
  | [c, d] => if (48 ≤ c ∧ c ≤ 57) ∧ 48 ≤ d ∧ d ≤ 57 then (if c = 48 then none else some (10 * ((c : Int) - 48) + ((d : Int) - 48))) else none
  | _ => none
/-- all of them, or none -/
def allR {α β : Type} (f : α → Option β) : List α → Option (List β)
  | [] => some []
  | a :: r => match f a with
    | none => none
    | some b => match allR f r with
      | none => none
      | some bs => some (b :: bs)
theorem allR_len {α β : Type} {f : α → Option β} : ∀ {xs : List α} {ys : List β}, allR f xs = some ys → ys.length = xs.length
  | [], _, h => by
    cases h
    rfl
  | a :: r, ys, h => by
    unfold allR at h
    cases e : f a with
    | none => rw [e] at h; cases h
    | some b =>
      rw [e] at h
      cases e2 : allR f r with
      | none => rw [e2] at h; cases h
      | some bs =>
        rw [e2] at h
        cases h
        rw [List.length_cons, List.length_cons, allR_len e2]
theorem allR_none {α β : Type} {f : α → Option β} {a : α} (e : f a = none) : ∀ {xs : List α}, a ∈ xs → allR f xs = none
  | [], h => by cases h
  | b :: r, h => by
    unfold allR
    rcases List.mem_cons.mp h with q | q
    · rw [← q, e]
    · cases e3 : f b with
      | none => rfl
      | some z => rw [allR_none e q]
theorem allR_map {α β : Type} {f : α → Option β} {g : β → α} : ∀ {ys : List β}, (∀ y ∈ ys, f (g y) = some y) → allR f (ys.map g) = some ys
  | [], _ => rfl
  | y :: r, h => by
    rw [List.map_cons]
    unfold allR
    rw [h y List.mem_cons_self, allR_map fun z hz => h z (List.mem_cons_of_mem _ hz)]
def numR (x : Str) : Option Int := numL x.cps.toList
/-- a line of next states -/
def entN (A S : Int) : Option (List Int) → Option (List Int)
  | none => none
  | some ns => if (ns.length : Int) = A ∧ (∀ n ∈ ns, n < S) then some ns else none
def entR (A S : Int) (x : Str) : Option (List Int) := entN A S (allR numR (Txt.split x (chr1 32)))
/-- the first line -/
def headR (x : Str) : Option (Int × Int) := match Txt.split x (chr1 32) with
  | [a, b, c] => if a = ("machine" : Str) then match numR b, numR c with
    | some n, some m => if n = 0 ∨ m = 0 then none else some (n, m)
    | _, _ => none else none
  | _ => none
/-- the first line of those behind it that is wrong -/
def goR (A S : Int) : Nat → List Str → Nat → Option Nat
  | 0, [], _ => none
  | 0, _ :: _, at_ => some at_
  | _ + 1, [], at_ => some at_
  | k + 1, l :: r, at_ => if (entR A S l).isNone = true then some at_ else goR A S k r (at_ + 1)
/-- the first wrong line of a text -/
def linesR : List Str → Option Nat
  | [] => some 0
  | l :: r => match headR l with
    | none => some 0
    | some (A, S) => goR A S S.toNat r 1
/-- what a right text tells -/
def tellR (x : Str) : Option (Int × List (List Int)) := match Txt.split x (chr1 10) with
  | [] => none
  | l :: r => match headR l with
    | none => none
    | some (A, S) => match allR (entR A S) r with
      | none => none
      | some rs => some (A, rs)
def readR (x : Str) : Option Nat := linesR (Txt.split x (chr1 10))
end Lk

set_option Elab.async false
set_option linter.all false
set_option maxRecDepth 100000
set_option maxHeartbeats 4000000
namespace Lk
open PySem L2
def txtN (n : Int) : Str := Str.ofString (toString n)
theorem txt_all : ∀ k : Fin 100, numR (txtN (k.val : Int)) = some (k.val : Int) ∧ (txtN (k.val : Int)).cps.toList.all (fun c => decide (48 ≤ c ∧ c ≤ 57)) = true ∧ (txtN (k.val : Int)).length ≤ 2 := by decide +kernel
theorem txt_num {n : Int} (h0 : 0 ≤ n) (h1 : n < 100) : numR (txtN n) = some n ∧ (∀ c ∈ (txtN n).cps.toList, 48 ≤ c ∧ c ≤ 57) ∧ (txtN n).length ≤ 2 := by
  obtain ⟨k, rfl⟩ : ∃ k : Nat, n = (k : Int) := ⟨n.toNat, by omega⟩
  obtain ⟨a, b, c⟩ := txt_all ⟨k, by omega⟩
  refine ⟨a, fun d hd => ?_, c⟩
  exact of_decide_eq_true (List.all_eq_true.mp b d hd)
theorem txt_free {n : Int} (h0 : 0 ≤ n) (h1 : n < 100) : free 32 (txtN n) ∧ free 10 (txtN n) := by
  obtain ⟨_, b, _⟩ := txt_num h0 h1
  exact ⟨fun h => by have := b 32 h; omega, fun h => by have := b 10 h; omega⟩
end Lk

set_option Elab.async false
set_option linter.all false
set_option maxRecDepth 100000
set_option maxHeartbeats 4000000
namespace Lk
open PySem L2
def rowT (r : List Int) : Str := Txt.join (chr1 32) (r.map txtN)
def headT (A S : Int) : Str := Txt.join (chr1 32) [("machine" : Str), txtN A, txtN S]
def linesT (A : Int) (rs : List (List Int)) : List Str := headT A (rs.length : Int) :: rs.map rowT
theorem entR_words {A S : Int} {ws : List Str} (h : ws ≠ []) (hf : ∀ w ∈ ws, free 32 w) : entR A S (Txt.join (chr1 32) ws) = entN A S (allR numR ws) := by
  unfold entR
  rw [split_join h hf]
theorem entR_ok {A S : Int} {r : List Int} (h0 : r ≠ []) (hA : (r.length : Int) = A) (hz : ∀ z ∈ r, 0 ≤ z ∧ z < S) (hS : S ≤ 99) : entR A S (rowT r) = some r := by
  have e : allR numR (r.map txtN) = some r := allR_map fun z hz' => (txt_num (hz z hz').1 (by have := hz z hz'; omega)).1
  unfold rowT
  rw [entR_words (by simpa using h0) (fun w hw => by
    obtain ⟨z, hz', rfl⟩ := List.mem_map.mp hw
    exact (txt_free (hz z hz').1 (by have := hz z hz'; omega)).1), e]
  show (if (r.length : Int) = A ∧ (∀ n ∈ r, n < S) then some r else none) = some r
  rw [if_pos ⟨hA, fun n hn => (hz n hn).2⟩]
theorem entR_word {A S : Int} {w : Str} {ws : List Str} (hf : ∀ w ∈ ws, free 32 w) (hw : w ∈ ws) (e : numR w = none) : entR A S (Txt.join (chr1 32) ws) = none := by
  rw [entR_words (fun q => by rw [q] at hw; cases hw) hf, allR_none e hw]
  rfl
theorem entR_many {A S : Int} {ws : List Str} (h : ws ≠ []) (hf : ∀ w ∈ ws, free 32 w) (e : (ws.length : Int) ≠ A) : entR A S (Txt.join (chr1 32) ws) = none := by
  rw [entR_words h hf]
  cases e2 : allR numR ws with
  | none => rfl
  | some ns =>
    show (if (ns.length : Int) = A ∧ (∀ n ∈ ns, n < S) then some ns else none) = none
    rw [if_neg (fun q => e (by rw [← allR_len e2]; exact q.1))]
theorem allR_at {α β : Type} {f : α → Option β} {a : α} {b : β} (e : f a = some b) {r : List α} {ys : List β} (h : allR f (a :: r) = some ys) : b ∈ ys := by
  unfold allR at h
  rw [e] at h
  cases e2 : allR f r with
  | none => rw [e2] at h; cases h
  | some bs =>
    rw [e2] at h
    cases h
    exact List.mem_cons_self
theorem entR_big {A S n : Int} {w : Str} {ws : List Str} (hf : ∀ x ∈ w :: ws, free 32 x) (e : numR w = some n) (hn : S ≤ n) : entR A S (Txt.join (chr1 32) (w :: ws)) = none := by
  rw [entR_words (by simp) hf]
  cases e2 : allR numR (w :: ws) with
  | none => rfl
  | some ns =>
    show (if (ns.length : Int) = A ∧ (∀ n ∈ ns, n < S) then some ns else none) = none
    rw [if_neg (fun q => by have := q.2 n (allR_at e e2); omega)]
theorem headR_ok {A S : Int} (a0 : 0 < A) (a1 : A < 100) (s0 : 0 < S) (s1 : S < 100) : headR (headT A S) = some (A, S) := by
  have hf : ∀ w ∈ [("machine" : Str), txtN A, txtN S], free 32 w := fun w hw => by
    rcases List.mem_cons.mp hw with e | hw
    · rw [e]
      show (32 : Nat) ∉ _
      decide +kernel
    rcases List.mem_cons.mp hw with e | hw
    · rw [e]
      exact (txt_free (by omega) a1).1
    · rw [List.mem_singleton.mp hw]
      exact (txt_free (by omega) s1).1
  unfold headR headT
  rw [split_join (by simp) hf]
  show (if ("machine" : Str) = ("machine" : Str) then match numR (txtN A), numR (txtN S) with
    | some n, some m => if n = 0 ∨ m = 0 then none else some (n, m)
    | _, _ => none else none) = _
  rw [if_pos rfl, (txt_num (by omega) a1).1, (txt_num (by omega) s1).1]
  show (if A = 0 ∨ S = 0 then none else some (A, S)) = _
  rw [if_neg (by omega)]
section
variable {A S : Int} {k at_ : Nat} {x : Str} {post : List Str}
theorem goR_ok : ∀ {ls : List Str} {at_ : Nat}, (∀ l ∈ ls, (entR A S l).isNone = false) → goR A S ls.length ls at_ = none
  | [], _, _ => rfl
  | l :: r, at_, h => by
    show (if (entR A S l).isNone = true then some at_ else goR A S r.length r (at_ + 1)) = none
    rw [if_neg (by rw [h l List.mem_cons_self]; decide)]
    exact goR_ok fun z hz => h z (List.mem_cons_of_mem _ hz)
theorem goR_bad (hx : entR A S x = none) : ∀ {ls : List Str} {k at_ : Nat}, (∀ l ∈ ls, (entR A S l).isNone = false) → ls.length < k → goR A S k (ls ++ x :: post) at_ = some (at_ + ls.length)
  | [], k + 1, at_, _, _ => by
    show (if (entR A S x).isNone = true then some at_ else _) = _
    rw [hx]
    rfl
  | l :: r, k + 1, at_, h, hk => by
    show (if (entR A S l).isNone = true then some at_ else goR A S k (r ++ x :: post) (at_ + 1)) = _
    rw [if_neg (by rw [h l List.mem_cons_self]; decide), goR_bad hx (fun z hz => h z (List.mem_cons_of_mem _ hz)) (by rw [List.length_cons] at hk; omega), List.length_cons]
    congr 1
    omega
  | l :: r, 0, _, _, hk => by
    rw [List.length_cons] at hk
    omega
  | [], 0, _, _, hk => absurd hk (by simp)
theorem goR_miss : ∀ {ls : List Str} {k at_ : Nat}, (∀ l ∈ ls, (entR A S l).isNone = false) → ls.length < k → goR A S k ls at_ = some (at_ + ls.length)
  | [], k + 1, at_, _, _ => rfl
  | l :: r, k + 1, at_, h, hk => by
    show (if (entR A S l).isNone = true then some at_ else goR A S k r (at_ + 1)) = _
    rw [if_neg (by rw [h l List.mem_cons_self]; decide), goR_miss (fun z hz => h z (List.mem_cons_of_mem _ hz)) (by rw [List.length_cons] at hk; omega), List.length_cons]
    congr 1
    omega
  | l :: r, 0, _, _, hk => by
    rw [List.length_cons] at hk
    omega
  | [], 0, _, _, hk => absurd hk (by simp)
theorem goR_more : ∀ {ls : List Str} {at_ : Nat}, (∀ l ∈ ls, (entR A S l).isNone = false) → goR A S ls.length (ls ++ x :: post) at_ = some (at_ + ls.length)
  | [], _, _ => rfl
  | l :: r, at_, h => by
    show (if (entR A S l).isNone = true then some at_ else goR A S r.length (r ++ x :: post) (at_ + 1)) = _
    rw [if_neg (by rw [h l List.mem_cons_self]; decide), goR_more (fun z hz => h z (List.mem_cons_of_mem _ hz)), List.length_cons]
    congr 1
    omega
end
theorem readR_lines {ls : List Str} (h : ls ≠ []) (hf : ∀ l ∈ ls, free 10 l) : readR (Txt.join (chr1 10) ls) = linesR ls := by
  unfold readR
  rw [split_join h hf]
theorem free_join {c d : Nat} (h : c ≠ d) : ∀ {ws : List Str}, (∀ w ∈ ws, free c w) → free c (Txt.join (chr1 d) ws) := by
  intro ws hw
  have ej : Txt.join (chr1 d) ws = Str.join (chr1 d) ws := StrLaws.glued_eq_join _ _
  rw [ej]
  clear ej
  induction ws with
  | nil => exact fun q => by cases q
  | cons x r ih =>
    cases r with
    | nil => exact hw x List.mem_cons_self
    | cons y z =>
      show c ∉ _
      rw [join_two]
      intro q
      rcases List.mem_append.mp q with q | q
      · exact hw x List.mem_cons_self q
      · rcases List.mem_cons.mp q with q | q
        · exact h q
        · exact ih (fun w hw' => hw w (List.mem_cons_of_mem _ hw')) q
end Lk

set_option Elab.async false
set_option linter.all false
set_option maxRecDepth 100000
set_option maxHeartbeats 4000000
/-! an exception that leaves a comprehension's block -/
namespace Lk
open PySem PySem.Spec PyProof.Rows L2
theorem note_same {u : Value} {e1 e2 : Env} (h : e1.frame = e2.frame) : noteFrame u e1 = noteFrame u e2 := by
  unfold noteFrame PySem.frameOf
  rw [h]
/-- the frames stand as they stood, whatever happens to an object that is none of them -/
theorem frames_cut {h h' B B1 : Heap} {C : Addr} (sb : Heap.SameBut C h h') (sub : ∀ b o, B1.get? b = some o → B.get? b = some o) : ∀ {l : List Env}, C ∉ frs l → h.FunFrames B l → h'.FunFrames B1 l
  | [], _, _ => trivial
  | env :: l, hn, hl => by
    obtain ⟨hk, ⟨L, o, hf, hb, ho, hd⟩, hr⟩ := hl
    have e : frs (env :: l) = L :: frs l := by
      show List.filterMap _ (env :: l) = _
      rw [List.filterMap_cons, hf]
      rfl
    rw [e, List.mem_cons, not_or] at hn
    refine ⟨hk, ⟨L, o, hf, ?_, (sb.2 L fun z => hn.1 z.symm).trans ho, hd⟩, frames_cut sb sub hn.2 hr⟩
    cases q : B1.get? L with
    | none => rfl
    | some v =>
      have := sub L v q
      rw [hb] at this
      cases this
/-- what is held, the block's own object left out -/
theorem held_cut {B h h' : Heap} {l : List Env} {a C : Addr} {Z : Obj → Prop} {L : Addr} {oC : Obj} (hh : HandSPX.HeldZ B l a Z L h) (hC : B.get? C = some oC) (nl : C ∉ frs l) (sb : Heap.SameBut C h h') :
    ∃ B1 : Heap, (∀ b, b ≠ C → B1.get? b = B.get? b) ∧ B1.get? C = none ∧ HandSPX.HeldZ B1 l a Z L h' := by
  obtain ⟨f1, f2, f3, oe, vs, T, oT, ts, he, hz, hd, h1, hnT, hTe, hT, hdT, h3⟩ := hh
  obtain ⟨B1, g1, g2⟩ := restrict B fun b => decide (b ≠ C)
  have k1 : ∀ b, b ≠ C → B1.get? b = B.get? b := fun b hb => g1 b (decide_eq_true hb)
  have k2 : B1.get? C = none := g2 C (decide_eq_false fun z => z rfl)
  have nC : ∀ {b}, B.get? b = none → b ≠ C := fun q e => by
    rw [e, hC] at q
    cases q
  have sub : ∀ b o, B1.get? b = some o → B.get? b = some o ∧ b ≠ C := fun b o q => by
    by_cases e : b = C
    · rw [e, k2] at q
      cases q
    · exact ⟨(k1 b e).symm.trans q, e⟩
  refine ⟨B1, k1, k2, fun b o q => ?_, (k1 a (nC f2)).trans f2, frames_cut sb (fun b o q => (sub b o q).1) nl f3, oe, vs, T, oT, ts, (sb.2 a (nC f2)).trans he, hz, hd, h1, (k1 T (nC hnT)).trans hnT, hTe, (sb.2 T (nC hnT)).trans hT, hdT, h3⟩
  obtain ⟨q1, q2⟩ := sub b o q
  exact (sb.2 b q2).trans (f1 b o q1)
theorem hok_cut {P : Program} {w : World} {H : Hp} {h h' : Heap} {C : Addr} (x : HOk P w H h) (hn : H C = none) (k : ∀ b o, b ≠ C → h.get? b = some o → h'.get? b = some o) : HOk P w H h' := fun b u e => by
  have nit : ∀ {c v}, H c = some v → c ≠ C := fun q z => by
    rw [z, hn] at q
    cases q
  refine (x b u e).stay (fun c v hc q => k c v ?_ q) (fun _ q => q) fun _ _ q => q
  rcases hc with z | z
  · rw [z]
    exact nit e
  · exact nit z
section
variable {X : Cx} {W : WX} {pins pins9 : List (Addr × Obj)} {σ σ9 : L2.St} {H3 H9 : Hp} {s3 s9 s' : Shared} {scope : Scope} {ce : Env} {fp : List Addr} {Wc : XK} {u : Value} {E1 : Value → Shared → Prop}
/-- what a call in the block let out goes out of the block -/
theorem block_raises (tk : Takes X W) (hs : X.stack = X.env :: X.outer) (hf : X.env.frame = some X.env.locals) (I3 : Inv X pins σ H3 s3) (hfp : ∀ b ∈ fp, FpOk X pins H3 b) (cL : ce.locals = s3.heap.objs.size) (cF : ce.frame = X.env.frame)
    (I9 : Inv (X.blk s3 H3 scope ce fp) pins9 σ9 H9 s9) (c : L2.CX X.prog X.w X.stack H9 s9 Wc u s') (hW : ∀ cls d H', Wc cls d H' → W cls d σ H') :
    wpAny (model X.prog X.w) X.A (noteFrame u ce) (fun _ s'' => (∃ m, s''.heap.Ns ce.locals m) ∧ ∀ h', Heap.SameBut ce.locals s''.heap h' → wpAny (model X.prog X.w) X.A (passOn "comprehension.variables-let-go" u ce : Sem Value) (fun _ _ => False) X.xe { s'' with heap := h' }) E1 s' := by
  obtain ⟨a, B, H', cls, d, rfl, fl, hok, ub, na, os, ag, hE⟩ := c
  have I7 : Inv X pins σ H9 s9 := I3.call' (ch := fp) I9.os I9.base I9.hok I9.bare fun b hb => ⟨(hfp b hb).2.2.2.1, (hfp b hb).2.1, (hfp b hb).2.2.2.2.1, (hfp b hb).2.2.2.2.2⟩
  obtain ⟨m9, hn9, _⟩ := I9.loc
  obtain ⟨oC, es, ep, eC, dC, sk, nf⟩ := hn9
  have nC : H9 ce.locals = none := I9.free
  have fC : FpOk X pins H9 ce.locals := I3.fpOk (Nat.le_of_eq cL.symm) nC
  have nl : ce.locals ∉ frs X.stack := fun hm => (List.mem_cons.mp (I3.stkSub _ hm)).elim fC.2.1 fC.2.2.1
  have BC : B.get? ce.locals = some oC := ub.keep _ _ eC nC nl
  have nC' : H' ce.locals = none := ub.free _ _ eC nC
  have hfr : X.A.frames = some (X.env :: X.outer) := by rw [I3.ok.frames, hs]
  have fl' := fl
  rw [hs] at fl'
  have nl' : ce.locals ∉ frs (X.env :: X.outer) := by
    rw [← hs]
    exact nl
  rw [note_same cF]
  refine HandSPX.looks_onZ Zc.steady hfr hf fl' fun h1 hh up1 => ⟨⟨m9, oC, es, ep, hh.1 _ _ BC, dC, sk, nf⟩, fun h' sb => ?_⟩
  obtain ⟨B1, g1, g2, hh1⟩ := held_cut hh BC nl' sb
  unfold PySem.passOn
  obtain ⟨f1, f2, f3, f4⟩ := id hh1
  obtain ⟨oe, vs, T, oT, ts, he, hz, hd, h1', hnT, hTe, hT, hdT, h3⟩ := id f4
  refine wpAny_bind (wpAny_field he hd h1' ?_)
  rw [if_neg (show ¬ ((Value.ref T == Value.none) = true) by simp)]
  refine wpAny_bind ?_
  rw [cF, hf]
  refine HandSPX.setFlight_anyZ (fr := some X.env.locals) f1 f3 f4 fun h2 k1 k2 k3 k4 => ?_
  refine wpAny_throw (tk _ _ ?_)
  obtain ⟨G, r1, r2⟩ := restrict h2 fun b => (B1.get? b).isSome || decide (b ∈ frs X.stack)
  have gB : ∀ b o, B1.get? b = some o → G.get? b = some o := fun b o q => (r1 b (by simp [q])).trans (k1 b o q)
  have gF : ∀ b, b ∈ frs X.stack → G.get? b = h2.get? b := fun b hb => r1 b (by simp [hb])
  have og : ∀ b o, G.get? b = some o → h2.get? b = some o ∧ ((B1.get? b).isSome = true ∨ b ∈ frs X.stack) := fun b o q => by
    cases z : (B1.get? b).isSome || decide (b ∈ frs X.stack) with
    | false =>
      rw [r2 b z] at q
      cases q
    | true => exact ⟨(r1 b z).symm.trans q, by simpa [Bool.or_eq_true] using z⟩
  have ne : ∀ {b}, b ∉ [ce.locals] → b ≠ ce.locals := fun q z => q (by rw [z]; exact List.mem_cons_self)
  have frm : ∀ b o, s9.heap.get? b = some o → b ∈ frs X.stack → ∃ sl, G.get? b = some { o with slots := sl } := fun b o q hb => by
    obtain ⟨sl1, q1⟩ := ub.slot b o q hb
    obtain ⟨_, o2, q2, nf2⟩ := fl.2.2.1.mem hb
    rw [q1] at q2
    have e2 := Option.some.inj q2
    have nf1 : ∀ vs, o.data ≠ .fields vs := fun vs z => nf2 vs (by rw [← e2]; exact z)
    obtain ⟨sl3, q3⟩ := up1 b _ q1 nf1
    obtain ⟨sl4, q4⟩ := k4 b _ ((sb.2 b fun z => nl (by rw [← z]; exact hb)).trans q3) nf1
    exact ⟨sl4, (gF b hb).trans q4⟩
  refine ⟨a, B1, { s9 with heap := G, gens := s'.gens, drawn := s'.drawn, toks := s'.toks }, pins, σ, H', cls, d, rfl, ?_, fun b o q hb => ?_, Heap.UpToSlots.of_keeps fun b o q => (og b o q).1, .inr (.inr ?_), na, os, ag, hW _ _ _ hE⟩
  · refine I7.call (ch := [ce.locals]) ⟨fun b o q n hb hx => gB b o ((g1 b (ne hx)).trans (ub.keep b o q n hb)), fun b o q n hb hx => frm b o q hb, fun b o q n _ => ub.free b o q n, fun b o q hx => ?_, ub.tups, ub.frzs, ub.tbls⟩
      (hok_cut hok nC' fun b o n q => gB b o ((g1 b n).trans q)) ag fun b hb => ?_
    · by_cases hb : b ∈ frs X.stack
      · obtain ⟨sl, z⟩ := frm b o q hb
        exact ⟨_, z⟩
      · obtain ⟨o', z⟩ := ub.there b o q hb
        exact ⟨o', gB b o' ((g1 b (ne hx)).trans z)⟩
    · rw [List.mem_singleton.mp hb]
      exact ⟨fC.2.2.2.1, fC.2.1, fC.2.2.2.2.1, fC.2.2.2.2.2⟩
  · obtain ⟨z1, z2⟩ := og b o q
    rcases z2 with z2 | z2
    · obtain ⟨o', z3⟩ := Option.isSome_iff_exists.mp z2
      have z4 := k1 b o' z3
      rw [z1] at z4
      rw [z3, z4]
    · exact absurd z2 hb
  · rw [hs]
    exact ⟨k1, f2, k2, k3⟩
end
end Lk

set_option Elab.async false
set_option linter.all false
set_option maxRecDepth 100000
set_option maxHeartbeats 4000000
/-! a comprehension whose step may raise -/
namespace Lk
open PySem PySem.Spec PyProof.Rows L2
/-- what is wished for behind the block, its own environment known -/
def compOut (M : Model) (A : Around) (E : Value → Shared → Prop) (use : Option (Value → Sem Unit)) (Q : Value → Shared → Prop) (acc : Value) (ce : Env) (r : Result) (t : Shared) : Prop :=
  match r, use with
  | .ok _, none => ∃ m, t.heap.Ns ce.locals m ∧ ∀ g, Heap.SameBut ce.locals t.heap g → Q acc { t with heap := g }
  | .ok _, some k => wpAny M A (k acc) (fun _ t2 => ∃ m, t2.heap.Ns ce.locals m ∧ ∀ g, Heap.SameBut ce.locals t2.heap g → Q .none { t2 with heap := g }) E t
  | .error x, _ => (∃ m, t.heap.Ns ce.locals m) ∧ ∀ g, Heap.SameBut ce.locals t.heap g → wpAny M A (PySem.passOn "comprehension.variables-let-go" x ce : Sem Value) (fun _ _ => False) E { t with heap := g }
theorem comp_out {M : Model} {A : Around} {E : Value → Shared → Prop} {s0 : Shared} {env : Env} {e : Expr} {sc : Scope} {pos : Pos} {mk first : Sem Value} {g : Comprehension} {gs : List Comprehension} {cl : List (Str × Addr)} {use : Option (Value → Sem Unit)} {Q : Value → Shared → Prop}
    (c1 : clausesOf e = g :: gs) (c2 : ∀ x, foldedSetIterable g.iter env x = pure x) (c3 : closureFor sc env = pure cl) (c4 : sc.kind = .function) (c5 : ∀ y ∈ sc.names, y.2 = .local → sc.names.lookup y.1 = some .local)
    (h : wpAny M A first (fun x t1 => wpAny M A (pyIter x) (fun it t2 => wpAny M A mk (fun acc t3 =>
      wpAny M A (newFunctionEnv sc env.globals cl [] env.qual none .none (some env)) (fun ce t4 => codeAny M A (.compStart e 0 it acc { ce with scope := relabel sc env }) (compOut M A E use Q acc { ce with scope := relabel sc env }) t4) E t3) E t2) E t1) E s0) :
    wpAny M A (comprehension e sc env pos mk false first use) Q E s0 := by
  have up : ∀ {α : Type} {t : Sem α} {q q' : α → Shared → Prop} {t0 : Shared}, wpAny M A t q E t0 → (∀ a b, q a b → q' a b) → wpAny M A t q' E t0 := fun z k => wpAny_mono z k fun _ _ y => y
  unfold comprehension
  rw [c3, c1]
  refine wpAny_bind (up h fun x t1 z1 => wpAny_bind (wpAny_standAt (wpAny_bind (wpAny_of_eq (c2 x) (wpAny_bind (wpAny_holding (up z1 fun it t2 z2 => wpAny_standIf (wpAny_bind (up z2 fun acc t3 z3 => wpAny_bind (wpAny_pure (wpAny_bind (up z3 fun ce t4 z4 => ?_))))))))))))
  dsimp only
  have lv : ∀ y ∈ (sc.names.filter fun y => (y.2 == .local || y.2 == .cell) && y.1 != (".0" : Str)).reverse, y.2 = .local → Env.kindOf { ce with scope := relabel sc env } y.1 = some .local := fun y hy e => lookup_relabel_local (c5 y (List.mem_filter.mp (List.mem_reverse.mp hy)).1 e)
  have lw : ∀ y ∈ (sc.names.filter fun y => (y.2 == .local || y.2 == .cell) && y.1 != (".0" : Str)).reverse.drop 1 ++ (sc.names.filter fun y => (y.2 == .local || y.2 == .cell) && y.1 != (".0" : Str)).reverse.take 1, y.2 = .local → Env.kindOf { ce with scope := relabel sc env } y.1 = some .local := fun y hy e =>
    (List.mem_append.mp hy).elim (fun q => lv y (List.mem_of_mem_drop q) e) fun q => lv y (List.mem_of_mem_take q) e
  refine wpAny_holding (wpAny_bind (wpAny_attempt (wpAny_holding (wpAny_run (codeAny_mono z4 fun r t z => ?_)))))
  cases r with
  | ok f =>
    cases use with
    | none =>
      obtain ⟨m, n, k⟩ := z
      exact wpAny_bind (wpAny_holding (wpAny_comp_letGo (cenv := { ce with scope := relabel sc env }) c4 _ t m lv n fun g' m' _ sb => wpAny_pure (k g' sb)))
    | some u =>
      refine wpAny_bind (wpAny_rule (wpAny_bind (wpAny_holding (up z fun _ t2 z2 => ?_))))
      obtain ⟨m, n, k⟩ := z2
      exact wpAny_bind (wpAny_comp_letGo (cenv := { ce with scope := relabel sc env }) c4 _ t2 m lw n fun g' m' _ sb => wpAny_pure (k g' sb))
  | error x =>
    have z' : (∃ m, t.heap.Ns ce.locals m) ∧ ∀ g', Heap.SameBut ce.locals t.heap g' → wpAny M A (PySem.passOn "comprehension.variables-let-go" x { ce with scope := relabel sc env } : Sem Value) (fun _ _ => False) E { t with heap := g' } := by
      cases use <;> exact z
    obtain ⟨⟨m, n⟩, k⟩ := z'
    exact wpAny_bind (wpAny_holding (wpAny_comp_letGo (cenv := { ce with scope := relabel sc env }) c4 _ t m lv n fun g' m' _ sb => up (k g' sb) fun _ _ y => y.elim))
end Lk

set_option Elab.async false
set_option linter.all false
set_option maxRecDepth 100000
set_option maxHeartbeats 4000000
namespace Lk
open PySem PySem.Spec PyProof.Rows L2
/-- a block's context in which a step may let out what Wc says -/
abbrev blkE (X : Cx) (Wc : XK) (s : Shared) (H : Hp) (scope : Scope) (ce : Env) (fp : List Addr) : Cx :=
  (X.blk s H scope ce fp).wish fun e t => ∃ (pl : List (Addr × Obj)) (σ' : L2.St) (H' : Hp) (t' : Shared), L2.Inv (X.blk s H scope ce fp) pl σ' H' t' ∧ L2.CX X.prog X.w X.stack H' t' Wc e t
theorem passE {X : Cx} {Wc : XK} {s : Shared} {H : Hp} {scope : Scope} {ce : Env} {fp : List Addr} : ∀ σ, PassesAt (L2.CX X.prog X.w) (blkE X Wc s H scope ce fp) σ ((fun _ => Wc) σ) := fun σ pl H' t' e t I c => ⟨pl, σ, H', t', I.unwish, c⟩
/-- [elt for target in iter ..], elt may raise: what it lets out is wished for at the slots ahead of the block -/
def tLcE (wi : TI) (g : TG) (tt : TT) (te : XK → TE) (vs : List Nat) (W : WX) : TE := fun σ H Q => tLc wi g tt (te fun cls d H' => W cls d σ H') vs σ H Q
section
variable {X : Cx} {W : WX}
theorem lc_out {pl : List (Addr × Obj)} {t0 : Shared} {σ : L2.St} {H : Hp} {Q : VK} {elt tg iter : Expr} {ifs : List Expr} {scope : Scope} {own : List (Str × Nat)} {pos pos' : Pos} {wi : TI} {g : TG} {tt : TT} {te : XK → TE} {use : Option (Value → Sem Unit)} {Qf : Value → Shared → Prop}
    (tk : Takes X W) (hs : X.stack = X.env :: X.outer) (hf : X.env.frame = some X.env.locals) (hc : X.calm = true) (hN : X.N.Nodup) (I : L2.Inv X pl σ H t0) (hi : PI X tg iter wi) (ok : BlkOk X.N X.env.scope scope own)
    (hg : ∀ (s : Shared) (H : Hp) (C : Addr) (cl : List (Str × Addr)) (fp : List Addr), PG (X.blk s H scope (compEnvC scope cl C X.env) fp) tg g) (ht : ∀ (s : Shared) (H : Hp) (C : Addr) (cl : List (Str × Addr)) (fp : List Addr), PTs (X.blk s H scope (compEnvC scope cl C X.env) fp) ifs tt)
    (he : ∀ (Wc : XK) (s : Shared) (H : Hp) (C : Addr) (cl : List (Str × Addr)) (fp : List Addr), PE (blkE X Wc s H scope (compEnvC scope cl C X.env) fp) elt (te Wc)) (hfs : ∀ x, foldedSetIterable iter X.env x = pure x)
    (h : tLcE wi g tt te (own.map (·.2)) W σ H Q)
    (hR : ∀ D C t m H', L2.Inv X pl σ H' t → Q (.ref D) H' → t.heap.Ns C m → FpOk X pl H' C → compPost (model X.prog X.w) X.A X.xe use Qf (.ref D) C (.ok .next) t) :
    wpAny (model X.prog X.w) X.A (comprehension (.ListComp elt [⟨tg, iter, ifs, 0⟩] scope pos) scope X.env pos' (newList []) false (eval iter X.env) use) Qf X.xe t0 := by
  have fr : ∀ y ∈ scope.names, y.2 = .free → ∃ c, X.env.cells.lookup y.1 = some c := fun y hy e => (ok.free y hy e).elim (fun q => I.ok.has _ (.inl q)) fun q => I.ok.has _ (.inr q)
  refine comp_out (use := use) rfl hfs (closure_ok fr) ok.kind (fun y hy e => by rw [ok.uniq y hy, e]) (thn (hi.run pl t0 σ H _ I h) fun v t1 z1 => thn z1 fun iv t2 z2 => ?_)
  obtain ⟨it, fp, tn, J, H2, e, I2, T, st2, f2, q⟩ := z2
  subst e
  refine wpAny_newObj_type (newEnv_comp ?_) (by show 0 ≤ sizeLine; decide)
  generalize eD : t2.heap.objs.size = D
  have fD : H2 D = none := I2.hok.fresh (Nat.le_of_eq eD)
  obtain ⟨Wm, ⟨m0, w0⟩, turn⟩ := q D fD
  generalize e3 : ({ t2 with heap := t2.heap.push { cls := .type "list", data := .seq ([] : List Value).toArray } } : Shared) = t3
  have hp3 : t3.heap = t2.heap.push { cls := .type "list", data := .seq ([] : List Value).toArray } := by rw [← e3]
  have I3 : L2.Inv X pl σ (upd H2 D (.lst [])) t3 := by
    rw [← e3]
    refine I2.laid (t' := t2.toks) (fun b o z => Heap.get?_push_of_some _ z) (Nat.le_of_eq eD) ⟨Nat.zero_le _, [], 0, .nil, ?_⟩
    rw [← eD]
    exact Heap.get?_push_size _ rfl
  have f3 : ∀ b ∈ fp, FpOk X pl (upd H2 D (.lst [])) b ∧ b < t3.heap.objs.size := fun b hb => by
    obtain ⟨o, z, _⟩ := T.obj _ _ st2 b hb
    have lt := Heap.lt_size z
    exact ⟨⟨by rw [upd_ne (by rw [← eD]; exact Nat.ne_of_lt lt)]; exact (f2 b hb).1, (f2 b hb).2⟩, by rw [hp3, Heap.size_push]; exact Nat.lt_succ_of_lt lt⟩
  have st3 : tn 0 t3.heap := T.keep _ _ _ st2 fun b _ o z => by rw [hp3]; exact Heap.get?_push_of_some _ z
  have I4 := block_start I3 ok hN f3
  have pg := hg t3 (upd H2 D (.lst [])) t3.heap.objs.size (cellsFrom (t3.heap.objs.size + 1) scope.names (cloFrom X.env.cells scope.names [])) fp
  have pt := ht t3 (upd H2 D (.lst [])) t3.heap.objs.size (cellsFrom (t3.heap.objs.size + 1) scope.names (cloFrom X.env.cells scope.names [])) fp
  have pe := he (fun cls d H' => W cls d σ H') t3 (upd H2 D (.lst [])) t3.heap.objs.size (cellsFrom (t3.heap.objs.size + 1) scope.names (cloFrom X.env.cells scope.names [])) fp
  show codeAny _ _ (.compStart (.ListComp elt [⟨tg, iter, ifs, 0⟩] scope pos) 0 (.ref it) (.ref D) (compEnvC scope (cellsFrom (t3.heap.objs.size + 1) scope.names (cloFrom X.env.cells scope.names [])) t3.heap.objs.size X.env)) (compOut (model X.prog X.w) X.A X.xe use Qf (.ref D) (compEnvC scope (cellsFrom (t3.heap.objs.size + 1) scope.names (cloFrom X.env.cells scope.names [])) t3.heap.objs.size X.env)) { t3 with heap := pushCells (t3.heap.push { cls := .type "dict", data := .dict #[] }) scope.names }
  have n3 : ∀ b ∈ fp, (upd H2 D (.lst [])) b = none := fun b hb => (f3 b hb).1.1
  generalize ec : compEnvC scope (cellsFrom (t3.heap.objs.size + 1) scope.names (cloFrom X.env.cells scope.names [])) t3.heap.objs.size X.env = ce at I4 pg pt pe ⊢
  have cL : ce.locals = t3.heap.objs.size := by subst ec; rfl
  have cF : ce.frame = X.env.frame := by subst ec; rfl
  generalize eH : upd H2 D (.lst []) = H3 at I3 I4 pg pt pe w0 n3 f3
  generalize e4 : ({ t3 with heap := pushCells (t3.heap.push { cls := .type "dict", data := .dict #[] }) scope.names } : Shared) = t4 at I4 ⊢
  have st4 : tn 0 t4.heap := T.keep _ _ _ st3 fun b _ o z => by rw [← e4]; exact pushCells_keeps _ _ _ _ (Heap.get?_push_of_some _ z)
  have stat : ∀ {σ' : L2.St} {H' : Hp} {t' : Shared}, L2.Inv (X.blk t3 H3 scope ce fp) [] σ' H' t' → (∀ b ∈ fp, H' b = none) → ∀ b ∈ fp, FpOk (X.blk t3 H3 scope ce fp) [] H' b := fun I' hn b hb =>
    ⟨hn b hb, (I'.ok.exf b hb).1, I'.ok.exfs b hb, .inl hb, fun x c z => (I'.ok.exf b hb).2 x c z, fun p hp => absurd (show p ∈ ([] : List (Addr × Obj)) ++ [] from hp) (by simp)⟩
  have loop : codeAny (model X.prog X.w) X.A (.compLoop (.ListComp elt [⟨tg, iter, ifs, 0⟩] scope pos) 0 (.ref it) (.ref D) ce) (compOut (model X.prog X.w) X.A X.xe use Qf (.ref D) ce) t4 := by
    refine compLoop_any (fun n t' => ∃ i H', L2.Inv (X.blk t3 H3 scope ce fp) [] (wipe σ (own.map (·.2))) H' t' ∧ tn i t'.heap ∧ (∀ b ∈ fp, H' b = none) ∧ Wm i n H') ?_ m0 ⟨0, H3, I4, st4, n3, w0⟩
    rintro n t5 ⟨i, H5, I5, st5, n5, w5⟩
    rcases turn i n H5 w5 with ⟨stop, qq⟩ | ⟨go, Nx, hNx, step⟩
    · refine thnF (T.done (X.blk t3 H3 scope ce fp) rfl rfl rfl hc i [] t5 _ H5 (fun _ _ => False) I5 (stat I5 n5) st5 stop) fun r t6 ⟨er, I6⟩ => ?_
      subst er
      have I7 : L2.Inv X pl σ H5 t6 := I3.call' (ch := fp) I6.os I6.base I6.hok I6.bare fun b hb => ⟨(f3 b hb).1.2.2.2.1, (f3 b hb).1.2.1, (f3 b hb).1.2.2.2.2.1, (f3 b hb).1.2.2.2.2.2⟩
      have nC : H5 ce.locals = none := I6.free
      obtain ⟨m, hn, _⟩ := I6.loc
      have z := hR D ce.locals t6 m H5 I7 qq hn (I3.fpOk (Nat.le_of_eq cL.symm) nC)
      cases use with
      | none => exact z
      | some _ => exact z
    · refine thnF (T.item (X.blk t3 H3 scope ce fp) rfl rfl rfl hc i [] t5 _ H5 (fun _ _ => False) I5 (stat I5 n5) st5 go) fun r t6 ⟨u, er, z6⟩ => ?_
      subst er
      refine thnF z6 fun _ t7 ⟨x, H7, I7, r7, y7, st7, n7⟩ => ?_
      have I7' := I7.pinned (stat I7 n7) (T.obj _ _ st7)
      refine thnF (pg.run _ t7 _ H7 x u _ I7' r7 (step x H7 y7)) fun _ t8 ⟨σ8, H8, I8, hw8, q8⟩ => ?_
      refine thnF (pt.run _ t8 σ8 H8 _ I8 q8) fun b t9 ⟨H9, I9, q9⟩ => ?_
      have fin : ∀ {t' : Shared} {H' : Hp}, L2.Inv (X.blk t3 H3 scope ce fp) ([] ++ pinsAt fp t7.heap) σ8 H' t' → Nx H' → ∃ m, m < n ∧ ∃ i H', L2.Inv (X.blk t3 H3 scope ce fp) [] (wipe σ (own.map (·.2))) H' t' ∧ tn i t'.heap ∧ (∀ b ∈ fp, H' b = none) ∧ Wm i m H' := fun {t' H'} I' nx => by
        obtain ⟨m', hm, w'⟩ := hNx H' nx
        have pin' : ∀ b ∈ fp, ∀ o, t7.heap.get? b = some o → t'.heap.get? b = some o ∧ H' b = none := fun b hb o z =>
          let y := I'.pin (b, o) (List.mem_append_right _ (List.mem_append_right _ (mem_pinsAt hb z)))
          ⟨y.1, y.2.1⟩
        refine ⟨m', hm, i + 1, H', (I'.unpinned (pins := [])).weak (by rw [← hw8, wipe_length]) (fun j v z => ?_), T.keep _ _ _ st7 fun b hb o z => (pin' b hb o z).1, fun b hb => ?_, w'⟩
        · rw [← hw8] at z
          exact (wipe_some z).1
        · obtain ⟨o, z, _⟩ := T.obj _ _ st7 b hb
          exact (pin' b hb o z).2
      cases b with
      | false =>
        simp only [Bool.false_eq_true, if_false] at q9 ⊢
        exact fin I9 q9
      | true =>
        simp only [if_true] at q9 ⊢
        refine wpAny_mono (pe.run _ t9 σ8 H9 _ (I9.wish _) q9) (fun z t10 ⟨yv, H10, I10, r10, acc, hD10, hz10, nx⟩ => app_ok (X := X.blk t3 H3 scope ce fp) I10.unwish hD10 hz10 r10 fun t11 I11 => fin I11 nx) fun e t10 ⟨pl', σ', H', t', I', c⟩ => ?_
        exact block_raises tk hs hf I3 (fun b hb => (f3 b hb).1) cL cF I' c fun _ _ _ y => y
  exact codeAny_compStart_list loop (T.self X.A 0 _ _ _ st4 loop)
end
end Lk

set_option Elab.async false
set_option linter.all false
set_option maxRecDepth 100000
set_option maxHeartbeats 4000000
namespace Lk
open PySem PySem.Spec PyProof.Rows L2
section
variable {X : Cx} {W : WX}
/-- [..] whose step may raise, as a value -/
theorem pe_lcE {elt tg iter : Expr} {ifs : List Expr} {scope : Scope} {own : List (Str × Nat)} {pos : Pos} {wi : TI} {g : TG} {tt : TT} {te : XK → TE} (tk : Takes X W) (hs : X.stack = X.env :: X.outer) (hf : X.env.frame = some X.env.locals) (hc : X.calm = true) (hN : X.N.Nodup) (hi : PI X tg iter wi) (ok : BlkOk X.N X.env.scope scope own)
    (hg : ∀ (s : Shared) (H : Hp) (C : Addr) (cl : List (Str × Addr)) (fp : List Addr), PG (X.blk s H scope (compEnvC scope cl C X.env) fp) tg g) (ht : ∀ (s : Shared) (H : Hp) (C : Addr) (cl : List (Str × Addr)) (fp : List Addr), PTs (X.blk s H scope (compEnvC scope cl C X.env) fp) ifs tt)
    (he : ∀ (Wc : XK) (s : Shared) (H : Hp) (C : Addr) (cl : List (Str × Addr)) (fp : List Addr), PE (blkE X Wc s H scope (compEnvC scope cl C X.env) fp) elt (te Wc)) (hfs : ∀ x, foldedSetIterable iter X.env x = pure x := by intro _; rfl) :
    PE X (.ListComp elt [⟨tg, iter, ifs, 0⟩] scope pos) (tLcE wi g tt te (own.map (·.2)) W) := by
  refine ⟨fun pl t0 σ H Q I h => ?_⟩
  rw [eval_ListComp]
  refine lc_out tk hs hf hc hN I hi ok hg ht he hfs h fun D C t m H' I' q hn f => ⟨m, hn, fun g' sb => ?_⟩
  exact ⟨.ref D, H', I'.turned (t' := t.toks) (fun b o hb z => (sb.2 b hb).trans z) f.1 f.2.1 f.2.2.2.1 f.2.2.2.2.1 f.2.2.2.2.2, rfl, q⟩
/-- name = [..] on one line, the name a local -/
theorem ps_setLcE {i : Nat} {y : Str} {py : Pos} {elt tg iter : Expr} {ifs : List Expr} {scope : Scope} {own : List (Str × Nat)} {pos spos : Pos} {wi : TI} {g : TG} {tt : TT} {te : XK → TE} (tk : Takes X W) (hs : X.stack = X.env :: X.outer) (hf : X.env.frame = some X.env.locals) (hc : X.calm = true) (hN : X.N.Nodup) (hy : X.N[i]? = some y) (hyl : X.env.scope.names.lookup y = some .local)
    (hsw : swapsWith (.ListComp elt [⟨tg, iter, ifs, 0⟩] scope pos) (some (.Name y py)) spos.line X.env = pure true) (hi : PI X tg iter wi) (ok : BlkOk X.N X.env.scope scope own)
    (hg : ∀ (s : Shared) (H : Hp) (C : Addr) (cl : List (Str × Addr)) (fp : List Addr), PG (X.blk s H scope (compEnvC scope cl C X.env) fp) tg g) (ht : ∀ (s : Shared) (H : Hp) (C : Addr) (cl : List (Str × Addr)) (fp : List Addr), PTs (X.blk s H scope (compEnvC scope cl C X.env) fp) ifs tt)
    (he : ∀ (Wc : XK) (s : Shared) (H : Hp) (C : Addr) (cl : List (Str × Addr)) (fp : List Addr), PE (blkE X Wc s H scope (compEnvC scope cl C X.env) fp) elt (te Wc)) (hfs : ∀ x, foldedSetIterable iter X.env x = pure x := by intro _; rfl) :
    PS X (.Assign [.Name y py] (.ListComp elt [⟨tg, iter, ifs, 0⟩] scope pos) spos) (tAsg (tLcE wi g tt te (own.map (·.2)) W) (gName i)) := by
  refine ⟨fun pl t0 σ H D I h => ?_⟩
  rw [exec_Assign_Name_used _ _ _ _ hsw]
  refine wpAny_bind (wpAny_standAt (wpAny_bind ?_))
  show wpAny _ X.A (do let _ ← comprehension (.ListComp elt [⟨tg, iter, ifs, 0⟩] scope pos) scope X.env (firstIterPos [⟨tg, iter, ifs, 0⟩] pos) (newList []) false (eval iter X.env) (some (assign (.Name y py) X.env))) _ _ t0
  have h : tLcE wi g tt te (own.map (·.2)) W σ H (fun x H1 => gName i x σ H1 D.nx) := h
  refine wpAny_bind (thn (lc_out (Qf := fun _ t => SP X pl D .next t) tk hs hf hc hN I hi ok hg ht he hfs h fun L C t m H' I' q hn f => ?_) fun _ t z => wpAny_pure (wpAny_pure z))
  show wpAny _ X.A (assign (.Name y py) X.env (.ref L)) _ _ _
  refine wpAny_assign_Name (store_ok2 (v := V.ref L) I' hN hy (.inl hyl) rfl (fun t2 I2 ⟨a, sb, ha⟩ => ?_) (.inr hyl))
  obtain ⟨f0, f1, f2, f3, f4, f5⟩ := f
  have nCa : C ≠ a := ha.elim (fun z => by rw [z]; exact f1) fun z e => f4 y a z e.symm
  exact ⟨m, hn.sameBut sb nCa, fun g3 sb3 => ⟨_, H', I2.turned (t' := t2.toks) (fun b o hb z => (sb3.2 b hb).trans z) f0 f1 f3 f4 f5, q⟩⟩
end
end Lk

set_option Elab.async false
set_option linter.all false
set_option maxRecDepth 100000
set_option maxHeartbeats 4000000
namespace Lk
open PySem L2
theorem tYes_go {σ : St} {H : Hp} {F : Bool → Hp → Prop} (h : F true H) : tYes σ H F := h
abbrev s_number_in : Stmt := top 11
abbrev N_number_in : List Str := ["word", "most", "letter"]
abbrev P_number_in : List Str := ["word", "most"]
theorem sc_number_in : FnScope N_number_in P_number_in (defScope s_number_in) := ⟨rfl, rfl, rfl, by decide +kernel, rfl, by decide +kernel, by decide +kernel⟩
abbrev s_number : Stmt := top 21
abbrev N_number : List Str := ["word", "at", "number"]
abbrev P_number : List Str := ["word", "at"]
theorem sc_number : FnScope N_number P_number (defScope s_number) := ⟨rfl, rfl, rfl, by decide +kernel, rfl, by decide +kernel, by decide +kernel⟩
abbrev figs : Str := ("0123456789" : Str)
def digB (c : Nat) : Bool := decide (48 ≤ c ∧ c ≤ 57)
theorem figs_mem (c : Nat) : decide (c ∈ figs.cps.toList) = digB c := by
  have e : figs.cps.toList = [48, 49, 50, 51, 52, 53, 54, 55, 56, 57] := by decide +kernel
  rw [e]
  unfold digB
  by_cases h : 48 ≤ c ∧ c ≤ 57
  · rw [decide_eq_true h]
    refine decide_eq_true ?_
    simp only [List.mem_cons, List.not_mem_nil, or_false]
    omega
  · rw [decide_eq_false h]
    refine decide_eq_false fun q => h ?_
    simp only [List.mem_cons, List.not_mem_nil, or_false] at q
    omega
theorem in_figs (c : Nat) : (!(Builtin.Str.occurrences figs ⟨#[c]⟩ 0 figs.length 1).isEmpty) = digB c := by
  rw [StrLaws.found_one, figs_mem]
theorem numL1 (c : Nat) : numL [c] = if 48 ≤ c ∧ c ≤ 57 then some ((c : Int) - 48) else none := rfl
theorem numL2 (c d : Nat) : numL [c, d] = if (48 ≤ c ∧ c ≤ 57) ∧ 48 ≤ d ∧ d ≤ 57 then (if c = 48 then none else some (10 * ((c : Int) - 48) + ((d : Int) - 48))) else none := rfl
/-- what a word of figures tells -/
theorem numL_int {z : Str} {n : Int} (h : numR z = some n) : PySem.intText? z = some n ∧ z.length ≤ 640 := by
  have hL : z.length = z.cps.toList.length := by
    show z.cps.size = _
    rw [Array.length_toList]
  unfold numR at h
  generalize hl : z.cps.toList = l at h
  match l, h with
  | [], h => cases h
  | [c], h =>
    rw [numL1] at h
    by_cases hc : 48 ≤ c ∧ c ≤ 57
    · rw [if_pos hc] at h
      have e := PySem.intText_digits (x := z) (by rw [hl]; intro d hd; rw [List.mem_singleton.mp hd]; exact hc) (by rw [hl]; simp) (by rw [hL, hl]; simp)
      rw [hl] at e
      refine ⟨?_, by rw [hL, hl]; simp⟩
      rw [e, ← Option.some.inj h]
      congr 1
      show (((0 * 10 + (c - 48) : Nat)) : Int) = _
      omega
    · rw [if_neg hc] at h
      cases h
  | [c, d], h =>
    rw [numL2] at h
    by_cases hc : (48 ≤ c ∧ c ≤ 57) ∧ 48 ≤ d ∧ d ≤ 57
    · rw [if_pos hc] at h
      by_cases hz : c = 48
      · rw [if_pos hz] at h
        cases h
      · rw [if_neg hz] at h
        have e := PySem.intText_digits (x := z) (by
          rw [hl]
          intro x hx
          rcases List.mem_cons.mp hx with q | q
          · rw [q]
            exact hc.1
          · rw [List.mem_singleton.mp q]
            exact hc.2) (by rw [hl]; simp) (by rw [hL, hl]; simp)
        rw [hl] at e
        refine ⟨?_, by rw [hL, hl]; simp⟩
        rw [e, ← Option.some.inj h]
        congr 1
        show ((((0 * 10 + (c - 48)) * 10 + (d - 48) : Nat)) : Int) = _
        omega
    · rw [if_neg hc] at h
      cases h
  | _ :: _ :: _ :: _, h => cases h
/-- where a word tells nothing -/
theorem num_len {z : Str} (h : ¬ (z.length = 1 ∨ z.length = 2)) : numR z = none := by
  have hL : z.length = z.cps.toList.length := by
    show z.cps.size = _
    rw [Array.length_toList]
  unfold numR
  rw [hL] at h
  generalize z.cps.toList = l at h
  match l, h with
  | [], _ => rfl
  | [c], h => exact absurd (.inl rfl) h
  | [c, d], h => exact absurd (.inr rfl) h
  | _ :: _ :: _ :: _, _ => rfl
theorem num_digs {z : Str} (h : (z.cps.toList.all digB) = false) : numR z = none := by
  unfold numR
  generalize z.cps.toList = l at h
  match l, h with
  | [], _ => rfl
  | [c], h =>
    have hc : ¬ (48 ≤ c ∧ c ≤ 57) := fun q => by
      have : (decide (48 ≤ c ∧ c ≤ 57) && true) = false := h
      rw [decide_eq_true q] at this
      cases this
    rw [numL1]
    rw [if_neg hc]
  | [c, d], h =>
    have hc : ¬ ((48 ≤ c ∧ c ≤ 57) ∧ 48 ≤ d ∧ d ≤ 57) := fun q => by
      have : (decide (48 ≤ c ∧ c ≤ 57) && (decide (48 ≤ d ∧ d ≤ 57) && true)) = false := h
      rw [decide_eq_true q.1, decide_eq_true q.2] at this
      cases this
    rw [numL2]
    rw [if_neg hc]
  | _ :: _ :: _ :: _, _ => rfl
/-- where it tells something, or begins with 0 -/
theorem num_tells {z : Str} (h1 : z.length = 1 ∨ z.length = 2) (h2 : (z.cps.toList.all digB) = true) : (z.length = 1 ∧ ∃ n, numR z = some n) ∨ (z.length = 2 ∧ ∃ c d, z.cps.toList = [c, d] ∧ (c = 48 → numR z = none) ∧ (c ≠ 48 → ∃ n, numR z = some n)) := by
  have hL : z.length = z.cps.toList.length := by
    show z.cps.size = _
    rw [Array.length_toList]
  have eN : numR z = numL z.cps.toList := rfl
  rw [eN]
  rw [hL] at h1 ⊢
  generalize z.cps.toList = l at h1 h2
  match l, h1, h2 with
  | [], h1, _ => simp at h1
  | [c], _, h2 =>
    have hc : 48 ≤ c ∧ c ≤ 57 := by
      have : (decide (48 ≤ c ∧ c ≤ 57) && true) = true := h2
      rw [Bool.and_true] at this
      exact of_decide_eq_true this
    exact .inl ⟨rfl, (c : Int) - 48, by rw [numL1]; rw [if_pos hc]⟩
  | [c, d], _, h2 =>
    have q : (decide (48 ≤ c ∧ c ≤ 57) && (decide (48 ≤ d ∧ d ≤ 57) && true)) = true := h2
    rw [Bool.and_true, Bool.and_eq_true] at q
    have hc : (48 ≤ c ∧ c ≤ 57) ∧ 48 ≤ d ∧ d ≤ 57 := ⟨of_decide_eq_true q.1, of_decide_eq_true q.2⟩
    refine .inr ⟨rfl, c, d, rfl, fun e => ?_, fun e => ⟨10 * ((c : Int) - 48) + ((d : Int) - 48), ?_⟩⟩
    · rw [numL2]
      rw [if_pos hc, if_pos e]
    · rw [numL2]
      rw [if_pos hc, if_neg e]
  | _ :: _ :: _ :: _, h1, _ => simp at h1
def spNumber (CT : Addr) : Sp := fun vs H Q E => ∃ (z : Str) (t : Int), vs = [.str z, .int t] ∧ z.length ≤ 1000000 ∧ match numR z with
  | some n => ∀ H', Same H H' → Q (.int n) H'
  | none => ∀ H' q, Same H H' → H' q = none → E (.ref CT) (some q) (upd H' q (.xd [(("at" : Str), .int t)]))
theorem lc_word {z : Str} {σ : St} {H1 : Hp} {D : Addr} {Qd : Hp → Prop} (hz : z.length ≤ 1000000) (hl : 2 < σ.length) (hD : H1 D = none) (hd : ∀ H', Same H1 H' → H' D = some (.lst ((z.cps.toList.map digB).map V.bl)) → Qd H') :
    ∃ W : Nat → Nat → Hp → Prop, (∃ m, W 0 m (upd H1 D (.lst []))) ∧ ∀ i m H, W i m H →
      ((Its z).stop i H ∧ Qd H) ∨ ((Its z).go i H ∧ ∃ Nx : Hp → Prop, (∀ H', Nx H' → ∃ m', m' < m ∧ W (i + 1) m' H') ∧ ∀ x H', (Its z).yld i H x H' → gName 2 x (wipe σ [2]) H' fun σ2 H2 => wipe σ2 [2] = wipe σ [2] ∧ tYes σ2 H2 fun b H3 =>
        if b = true then (tOp (fun x y H Q => ∃ i j, x = .str i ∧ y = .str j ∧ Q (.bl (!(Builtin.Str.occurrences j i 0 j.length 1).isEmpty)) H) (tVar 2) (tC (.str figs))) σ2 H3 fun y H4 => ∃ acc, H4 D = some (.lst acc) ∧ acc.length < sizeLine ∧ Nx (upd H4 D (.lst (acc ++ [y]))) else Nx H3) := by
  have hs : z.cps.size = z.length := rfl
  refine lc_it walk_str (fun i H => Same H1 H ∧ H D = some (.lst (((z.cps.toList.map digB).take i).map V.bl))) ⟨Same.new hD, upd_same⟩ (fun _ _ _ _ => trivial) ?_ (fun H p => hd H p.1 (by
    have e := p.2
    rw [List.take_of_length_le (by rw [List.length_map, Array.length_toList]; exact Nat.le_refl _)] at e
    exact e))
  rintro i x H H' hi ⟨p1, p2⟩ ⟨rfl, c, hc, rfl⟩
  have hc' : z.cps.toList[i]? = some c := by
    rw [← hc]
    simp
  refine ⟨wipe1 _ _ _, ?_⟩
  refine tYes_go ?_
  simp only [↓reduceIte]
  refine ⟨_, List.getElem?_set_self (by rw [wipe_length]; exact hl), _, _, rfl, rfl, ?_⟩
  rw [in_figs]
  refine ⟨_, p2, ?_, ((KP.same (S := fun _ => False) p1).mut hD).toSame, ?_⟩
  · rw [List.length_map, List.length_take]
    exact Nat.lt_of_le_of_lt (Nat.le_trans (Nat.min_le_left _ _) (Nat.le_trans (Nat.le_of_lt hi) (by rw [hs]; exact hz))) (by decide)
  · rw [upd_same, take_next (by rw [List.getElem?_map, hc']; rfl), List.map_append]
    rfl
/-- what a word tells, or nothing -/
def numV (z : Str) : V := match numR z with
  | some n => .int n
  | none => .non
def spNumIn : Sp := fun vs H Q _ => ∃ z : Str, vs = [.str z, .int 2] ∧ z.length ≤ 1000000 ∧ ∀ H', Same H H' → Q (numV z) H'
section
variable {P : Program} {w : World} {K : PySem.W.Frag} {mg : Str → Option Value} {base : Heap} {CT fCT : Addr} {uF uM : Value}
theorem ok_number_in {f : Addr} {fd : FuncData} (A0 : Df K mg "number_in" s_number_in f fd P_number_in) (T : Txt mg) (gF : mg "FIGURES" = some uF) (rF : RelV (.str figs) uF) : FnOk P w K mg base CX0 1 f fd P_number_in spNumIn := by
  refine A0.F.ok sc_number_in (fun vs H Q E h => ?_) (fun cdv Ar outer s H vs Q E hr h => ?_)
  · obtain ⟨z, rfl, _⟩ := h
    rfl
  · obtain ⟨z, rfl, hz, kR⟩ := h
    refine ⟨_, (pss_cons (ps_if (PW.pt (pw_or (pt_cmpR op_eq (pe_callB call_len_str (by rfl) T.len PySem.boot_len (pa_cons (pv 0) pa_nil)) pe_int (nomark _)) (pw_or (pt_cmpR op_gt (pe_callB call_len_str (by rfl) T.len PySem.boot_len (pa_cons (pv 0) pa_nil)) (pv 1) (nomark _)) (pw_or1 (pt_not (pt_val (pe_callB (cr_all rfl) (by rfl) T.all PyProof.Rows.boot_all (pa_cons (pe_lc (own := [("letter", 2)]) (g := gName 2) (tt := tYes) rfl sc_number_in.nd (pi_str (pv 0)) (blkOk_by (N := N_number_in) (sc := defScope s_number_in) (by decide +kernel)) (fun _ _ _ _ _ => (pg_name (i := 2) sc_number_in.nd rfl (Or.inl rfl))) (fun _ _ _ _ _ => pts_nil) (fun _ _ _ _ _ => (pe_cmpR op_in_str (pv 2) (pe_glob (by rfl) gF rF) (by with_unfolding_all rfl)))) pa_nil)))))))) (pss_one (ps_ret pe_non)) pss_nil)
    (pss_cons (ps_if (PW.pt (pw_and (pt_cmpR op_gt (pe_callB call_len_str (by rfl) T.len PySem.boot_len (pa_cons (pv 0) pa_nil)) pe_int (nomark _)) (pw_and1 (pt_cmpR op_eq (pe_ix ix_str (pv 0) pe_int (fun _ _ => rfl)) pe_str (nomark _))))) (pss_one (ps_ret pe_non)) pss_nil)
    (pss_one (ps_ret (pe_callTy call_int_str (by rfl) T.int (by decide +kernel) (pa_cons (pv 0) pa_nil)))))), ?_⟩
    have hzS : z.length ≤ sizeLine := Nat.le_trans hz (by decide)
    have no : ∀ H', Same H H' → numR z = none → Q .non H' := fun H' S e => by
      have h := kR H' S
      unfold numV at h
      rw [e] at h
      exact h
    refine ⟨_, rfl, z, rfl, hzS, rfl, _, rfl, ?_⟩
    by_cases h0 : z.length = 0
    · rw [show decide (V.int (z.length : Int) = V.int 0) = true by rw [h0] <;> rfl]
      exact iteT (iteT (no H (Same.refl _) (num_len (by omega))))
    · rw [show decide (V.int (z.length : Int) = V.int 0) = false from decide_eq_false (fun e => h0 (by injection e with e; omega))]
      refine iteF ⟨_, rfl, z, rfl, hzS, _, rfl, _, _, rfl, rfl, _, rfl, ?_⟩
      by_cases h3 : z.length > 2
      · rw [show decide (((z.length : Int)) > 2) = true from decide_eq_true (by omega)]
        exact iteT (iteT (no H (Same.refl _) (num_len (by omega))))
      · rw [show decide (((z.length : Int)) > 2) = false from decide_eq_false (by omega)]
        have h1 : z.length = 1 ∨ z.length = 2 := by omega
        refine iteF ⟨_, rfl, z, rfl, fun D hD => ?_⟩
        refine lc_word hz (by show 2 < 3; decide) hD (fun H2 S2 e2 => ⟨D, _, rfl, SqL.of e2, _, rfl, ?_⟩)
        have ea : (z.cps.toList.map digB).all id = z.cps.toList.all digB := by
          rw [List.all_map]
          rfl
        rw [ea]
        cases h2 : z.cps.toList.all digB with
        | false => exact iteT (no H2 S2 (num_digs h2))
        | true =>
          refine iteF ?_
          refine ⟨_, rfl, z, rfl, hzS, _, _, rfl, rfl, _, rfl, ?_⟩
          have fin : ∀ n, numR z = some n → tRet (tCB (fun xs H Q => ∃ a n, xs = [V.str a] ∧ intText? a = some n ∧ a.length ≤ 640 ∧ Q (V.int n) H) (tCons (tVar 0) tNil)) { nx := fun x H' => Q V.non H', rt := Q } (L2.start N_number_in [V.str z, V.int 2]) H2 := fun n e => by
            have h := kR H2 S2
            unfold numV at h
            rw [e] at h
            exact ⟨_, rfl, z, n, rfl, (numL_int e).1, (numL_int e).2, h⟩
          rcases num_tells h1 h2 with ⟨hl, n, hn⟩ | ⟨hl, c, d, hcd, n0, n1⟩
          · rw [show decide (((z.length : Int)) > 1) = false from decide_eq_false (by omega)]
            exact iteF (iteF (fin n hn))
          · rw [show decide (((z.length : Int)) > 1) = true from decide_eq_true (by omega)]
            refine iteT ?_
            have ix : atI z.cps.toList 0 = some c := by
              rw [hcd]
              rfl
            refine ⟨_, rfl, z, 0, c, rfl, rfl, hzS, ix, ?_⟩
            have e0 : (V.str (⟨#[c]⟩ : Str) = V.str (Str.ofString "0")) ↔ c = 48 := by
              constructor
              · intro q
                injection q with q
                exact (List.cons.inj (congrArg (fun s : Str => s.cps.toList) q : [c] = [48])).1
              · rintro rfl
                rfl
            refine ⟨rfl, _, rfl, ?_⟩
            by_cases hc : c = 48
            · rw [decide_eq_true (e0.2 hc)]
              exact iteT (no H2 S2 (n0 hc))
            · rw [decide_eq_false fun q => hc (e0.1 q)]
              obtain ⟨n, hn⟩ := n1 hc
              exact iteF (fin n hn)
theorem ok_number4 {f fi : Addr} {fd fdi : FuncData} (A0 : Df K mg "_number" s_number f fd P_number) (d_number_in : Df K mg "number_in" s_number_in fi fdi P_number_in) (G_number_in : FnOk P w K mg base CX0 1 fi fdi P_number_in spNumIn) (T : Txt mg) (gM : mg "MOST_FIGURES" = some uM) (rM : RelV (.int 2) uM) (TT : PySem.ErrX.ErrTxt K mg "InvalidText" "InvalidText.__init__" CT fCT) : FnOk P w K mg base (L2.CX P w) 6 f fd P_number (spNumber CT) := by
  refine A0.F.okX sc_number (fun vs H Q E h => ?_) (fun cdv Ar outer s H vs Q E hr h => ?_)
  · obtain ⟨z, t, rfl, _⟩ := h
    rfl
  · obtain ⟨z, t, rfl, hz, kR⟩ := h
    have tk : Takes (cxOf (L2.CX P w) P w K mg base N_number "_number" (defScope s_number) f cdv Ar outer s H E) (fun cls d _ H => E cls d H) := takes_of rfl rfl rfl rfl
    refine ⟨_, (pss_cons (ps_set (i := 2) sc_number.nd rfl (Or.inl rfl) (pe_call G_number_in (hr.mono (by decide)) rfl d_number_in.g d_number_in.F.kp d_number_in.b .nil pass0 (pa_cons (pv 0) (pa_cons (pe_glob (by rfl) gM rM) pa_nil))))
    (pss_cons (ps_if (pt_cmpR op_isN (pv 2) pe_non (nomark _)) (pss_one (ps_raiseLow rfl TT hr tk (pa_cons (pv 1) pa_nil) (by rfl))) pss_nil)
    (pss_one (ps_ret (pv 2))))), ?_⟩
    refine ⟨_, rfl, z, rfl, hz, fun H1 S1 => ?_⟩
    unfold numV
    cases e : numR z with
    | none =>
      rw [e] at kR
      exact ⟨_, rfl, rfl, true, congrArg V.bl (decide_eq_true rfl), iteT ⟨_, rfl, _, rfl, fun q hq => kR H1 q S1 hq⟩⟩
    | some n =>
      rw [e] at kR
      exact ⟨_, rfl, rfl, false, congrArg V.bl (decide_eq_false (fun q => by cases q)), iteF ⟨_, rfl, kR H1 S1⟩⟩
end
end Lk

set_option Elab.async false
set_option linter.all false
set_option maxRecDepth 100000
set_option maxHeartbeats 4000000
namespace Lk
open PySem L2
theorem join_mem_le (c : Nat) : ∀ {xs : List Str} {x : Str}, x ∈ xs → x.cps.toList.length ≤ (Str.join (chr1 c) xs).cps.toList.length
  | [y], x, h => by
    rw [List.mem_singleton.mp h]
    exact Nat.le_refl _
  | y :: z :: r, x, h => by
    rw [join_two, List.length_append, List.length_cons]
    rcases List.mem_cons.mp h with q | q
    · rw [q]
      exact Nat.le_add_right _ _
    · have := join_mem_le c (xs := z :: r) q
      omega
theorem split_mem_le {c : Nat} {z x : Str} (h : x ∈ Txt.split z (chr1 c)) : x.length ≤ z.length := by
  have e := join_mem_le c h
  have j : Str.join (chr1 c) (Txt.split z (chr1 c)) = z := StrLaws.join_split _ _
  rw [j] at e
  have l1 : x.cps.toList.length = x.length := Array.length_toList
  have l2 : z.cps.toList.length = z.length := Array.length_toList
  omega
theorem split_len_le {c : Nat} {z : Str} : (Txt.split z (chr1 c)).length ≤ z.length + 1 := by
  have j : Str.join (chr1 c) (Txt.split z (chr1 c)) = z := StrLaws.join_split _ _
  have k : ∀ xs : List Str, xs.length ≤ (Str.join (chr1 c) xs).cps.toList.length + 1 := by
    intro xs
    induction xs with
    | nil => exact Nat.zero_le _
    | cons x r ih =>
      cases r with
      | nil => exact Nat.succ_le_succ (Nat.zero_le _)
      | cons y s =>
        have := ih
        rw [join_two, List.length_append, List.length_cons (as := (Str.join (chr1 c) (y :: s)).cps.toList), List.length_cons]
        omega
  have e := k (Txt.split z (chr1 c))
  rw [j] at e
  have l2 : z.cps.toList.length = z.length := Array.length_toList
  omega
abbrev s_head : Stmt := top 19
abbrev N_head : List Str := ["line", "words", "commands", "states"]
abbrev P_head : List Str := ["line"]
theorem sc_head : FnScope N_head P_head (defScope s_head) := ⟨rfl, rfl, rfl, by decide +kernel, rfl, by decide +kernel, by decide +kernel⟩
theorem spNumber_some {CT : Addr} {z : Str} {t n : Int} {H : Hp} {Q : VK} {E : XK} (hz : z.length ≤ 1000000) (h : numR z = some n) (k : ∀ H', Same H H' → Q (.int n) H') : spNumber CT [.str z, .int t] H Q E := ⟨z, t, rfl, hz, by rw [h]; exact k⟩
theorem spNumber_none {CT : Addr} {z : Str} {t : Int} {H : Hp} {Q : VK} {E : XK} (hz : z.length ≤ 1000000) (h : numR z = none) (k : ∀ H' q, Same H H' → H' q = none → E (.ref CT) (some q) (upd H' q (.xd [(("at" : Str), .int t)]))) : spNumber CT [.str z, .int t] H Q E := ⟨z, t, rfl, hz, by rw [h]; exact k⟩
theorem dec_intN {n m : Nat} : decide (V.int (n : Int) = V.int (m : Int)) = decide (n = m) := by
  by_cases h : n = m
  · rw [h, decide_eq_true rfl, decide_eq_true rfl]
  · rw [decide_eq_false h, decide_eq_false]
    intro q
    injection q with q
    exact h (by omega)
theorem dec_intI {n m : Int} : decide (V.int n = V.int m) = decide (n = m) := by
  by_cases h : n = m
  · rw [h, decide_eq_true rfl, decide_eq_true rfl]
  · rw [decide_eq_false h, decide_eq_false]
    intro q
    injection q with q
    exact h q
theorem dec_strS {n m : Str} : decide (V.str n = V.str m) = decide (n = m) := by
  by_cases h : n = m
  · rw [h, decide_eq_true rfl, decide_eq_true rfl]
  · rw [decide_eq_false h, decide_eq_false]
    intro q
    injection q with q
    exact h q
theorem len3 {α : Type} {xs : List α} (h : xs.length = 3) : ∃ a b c, xs = [a, b, c] := by
  match xs, h with
  | [a, b, c], _ => exact ⟨a, b, c, rfl⟩
def spHead (CT : Addr) : Sp := fun vs H Q E => ∃ (z : Str), vs = [.str z] ∧ z.length ≤ 1000000 ∧ match headR z with
  | some (A, S) => ∀ H' T, Same H H' → H' T = none → Q (.ref T) (upd H' T (.tup [.int A, .int S]))
  | none => ∀ H' q, Same H H' → H' q = none → E (.ref CT) (some q) (upd H' q (.xd [(("at" : Str), .int 0)]))
theorem headR_3 {z a b c : Str} (h : Txt.split z (chr1 32) = [a, b, c]) : headR z = if a = ("machine" : Str) then match numR b, numR c with
    | some n, some m => if n = 0 ∨ m = 0 then none else some (n, m)
    | _, _ => none else none := by
  unfold headR
  rw [h] <;> rfl
theorem headR_n {z : Str} (h : (Txt.split z (chr1 32)).length ≠ 3) : headR z = none := by
  unfold headR
  generalize Txt.split z (chr1 32) = l at h
  match l, h with
  | [], _ => rfl
  | [_], _ => rfl
  | [_, _], _ => rfl
  | [_, _, _], h => exact absurd rfl h
  | _ :: _ :: _ :: _ :: _, _ => rfl
section
variable {P : Program} {w : World} {K : PySem.W.Frag} {mg : Str → Option Value} {base : Heap} {CT fCT : Addr}
theorem ok_head5 {f fN : Addr} {fd fdN : FuncData} (A0 : Df K mg "_head" s_head f fd P_head) (T : Txt mg) (G_number : FnOk P w K mg base (L2.CX P w) 6 fN fdN P_number (spNumber CT)) (d_number : Df K mg "_number" s_number fN fdN P_number) (TT : PySem.ErrX.ErrTxt K mg "InvalidText" "InvalidText.__init__" CT fCT) : FnOk P w K mg base (L2.CX P w) 7 f fd P_head (spHead CT) := by
  refine A0.F.okX sc_head (fun vs H Q E h => ?_) (fun cdv Ar outer s H vs Q E hr h => ?_)
  · obtain ⟨z, rfl, _⟩ := h
    rfl
  · obtain ⟨z, rfl, hz, kR⟩ := h
    have tk : Takes (cxOf (L2.CX P w) P w K mg base N_head "_head" (defScope s_head) f cdv Ar outer s H E) (fun cls d _ H => E cls d H) := takes_of rfl rfl rfl rfl
    refine ⟨_, (pss_cons (ps_set (i := 1) sc_head.nd rfl (Or.inl rfl) (pe_split (pv 0) pe_str))
    (pss_cons (ps_if (PW.pt (pw_or (pt_cmpR op_ne (pe_callB call_len_seq (by rfl) T.len PySem.boot_len (pa_cons (pv 1) pa_nil)) pe_int (nomark _)) (pw_or1 (pt_cmpR op_ne (pe_ix ix_list (pv 1) pe_int (fun _ _ => rfl)) pe_str (nomark _))))) (pss_one (ps_raiseLow rfl TT hr tk (pa_cons pe_int pa_nil) (by rfl))) pss_nil)
    (pss_cons (ps_par (i := 2) (j := 3) rfl sc_head.nd rfl rfl (by decide) rfl rfl (pa_cons (pe_callS G_number (hr.mono (by decide)) rfl d_number.g d_number.F.kp d_number.b (fun σ => passAt tk σ) (pa_cons (pe_ix ix_list (pv 1) pe_int (fun _ _ => rfl)) (pa_cons pe_int pa_nil))) (pa_cons (pe_callS G_number (hr.mono (by decide)) rfl d_number.g d_number.F.kp d_number.b (fun σ => passAt tk σ) (pa_cons (pe_ix ix_list (pv 1) pe_int (fun _ _ => rfl)) (pa_cons pe_int pa_nil))) pa_nil)) rfl)
    (pss_cons (ps_if (PW.pt (pw_or (pt_cmpR op_eq (pv 2) pe_int (nomark _)) (pw_or1 (pt_cmpR op_eq (pv 3) pe_int (nomark _))))) (pss_one (ps_raiseLow rfl TT hr tk (pa_cons pe_int pa_nil) (by rfl))) pss_nil)
    (pss_one (ps_ret (pe_tup (pa_cons (pv 2) (pa_cons (pv 3) pa_nil))))))))), ?_⟩
    have rs : headR z = none → ∀ H' q, Same H H' → H' q = none → E (.ref CT) (some q) (upd H' q (.xd [(("at" : Str), .int 0)])) := fun e => by
      rw [e] at kR
      exact kR
    have rt : ∀ A S, headR z = some (A, S) → ∀ H' T, Same H H' → H' T = none → Q (.ref T) (upd H' T (.tup [.int A, .int S])) := fun A S e => by
      rw [e] at kR
      exact kR
    refine ⟨_, rfl, ⟨z, rfl⟩, z, _, rfl, rfl, by decide, by show _ ≤ 16777216 - 0; omega, fun p hp => ?_⟩
    have e8 : (Str.ofString " ") = chr1 32 := by decide +kernel
    rw [e8]
    have hw : ∀ x ∈ Txt.split z (chr1 32), x.length ≤ 1000000 := fun x hx => Nat.le_trans (split_mem_le hx) hz
    have hn : (Txt.split z (chr1 32)).length ≤ sizeLine := Nat.le_trans split_len_le (by show _ ≤ 16777216; omega)
    have h3 := fun a b c => headR_3 (z := z) (a := a) (b := b) (c := c)
    have hx := headR_n (z := z)
    generalize Txt.split z (chr1 32) = ws at *
    have S1 : Same H (upd H p (.lst (ws.map V.str))) := Same.new hp
    have e1 : upd H p (.lst (ws.map V.str)) p = some (.lst (ws.map V.str)) := upd_same
    generalize upd H p (.lst (ws.map V.str)) = H1 at *
    refine ⟨_, rfl, p, _, rfl, .inl (SqL.of e1), rfl, _, rfl, ?_⟩
    have e3 : decide (V.int ((ws.map V.str).length : Int) = V.int 3) = decide (ws.length = 3) := by
      rw [List.length_map]
      exact dec_intN (m := 3)
    rw [e3]
    by_cases hl : ws.length = 3
    · obtain ⟨a, b, c, rfl⟩ := len3 hl
      have h3 := h3 a b c rfl
      rw [decide_eq_true hl]
      refine iteF ?_
      refine ⟨_, rfl, p, _, 0, .str a, rfl, rfl, SqL.of e1, rfl, rfl, _, rfl, ?_⟩
      rw [dec_strS]
      by_cases ha : a = ("machine" : Str)
      · rw [decide_eq_true ha]
        refine iteF ?_
        rw [if_pos ha] at h3
        have hb := hw b (by simp)
        have hc := hw c (by simp)
        refine ⟨_, rfl, p, _, 1, .str b, rfl, rfl, SqL.of e1, rfl, b, 0, rfl, hb, ?_⟩
        cases nb : numR b with
        | none =>
          rw [nb] at h3
          exact fun H' q S2 hq => rs h3 H' q (S1.trans S2) hq
        | some n =>
          refine fun H2 S2 => ?_
          refine ⟨_, rfl, p, _, 2, .str c, rfl, rfl, SqL.of (S2 _ _ e1), rfl, c, 0, rfl, hc, ?_⟩
          cases nc : numR c with
          | none =>
            rw [nb, nc] at h3
            exact fun H' q S3 hq => rs h3 H' q ((S1.trans S2).trans S3) hq
          | some m =>
            refine fun H3 S3 => ?_
            rw [nb, nc] at h3
            have S13 := (S1.trans S2).trans S3
            have z3 : headR z = if n = 0 ∨ m = 0 then none else some (n, m) := h3
            refine ⟨_, _, rfl, ?_⟩
            refine ⟨_, rfl, rfl, _, rfl, ?_⟩
            rw [dec_intI]
            by_cases hn0 : n = 0
            · rw [decide_eq_true hn0]
              rw [if_pos (.inl hn0)] at z3
              exact iteT (iteT ⟨_, rfl, fun q hq => rs z3 H3 q S13 hq⟩)
            · rw [decide_eq_false hn0]
              refine iteF ?_
              refine ⟨_, rfl, rfl, _, rfl, ?_⟩
              rw [dec_intI]
              by_cases hm0 : m = 0
              · rw [decide_eq_true hm0]
                rw [if_pos (.inr hm0)] at z3
                exact iteT ⟨_, rfl, fun q hq => rs z3 H3 q S13 hq⟩
              · rw [decide_eq_false hm0]
                rw [if_neg (fun q => q.elim hn0 hm0)] at z3
                refine iteF ?_
                refine ⟨_, rfl, _, rfl, ?_⟩
                exact ⟨by show 2 ≤ sizeLine; decide, fun T hT => rt n m z3 H3 T S13 hT⟩
      · rw [decide_eq_false ha]
        rw [if_neg ha] at h3
        exact iteT ⟨_, rfl, fun q hq => rs h3 H1 q S1 hq⟩
    · rw [decide_eq_false hl]
      exact iteT (iteT ⟨_, rfl, fun q hq => rs (hx hl) H1 q S1 hq⟩)
end
end Lk

set_option Elab.async false
set_option linter.all false
set_option maxRecDepth 100000
set_option maxHeartbeats 4000000
namespace Lk
open PySem L2
abbrev s_entry : Stmt := top 20
abbrev N_entry : List Str := ["line", "commands", "states", "at", "entry", "word"]
abbrev P_entry : List Str := ["line", "commands", "states", "at"]
theorem sc_entry : FnScope N_entry P_entry (defScope s_entry) := ⟨rfl, rfl, rfl, by decide +kernel, rfl, by decide +kernel, by decide +kernel⟩
theorem allR_snoc {α β : Type} {f : α → Option β} {x : α} {y : β} (e : f x = some y) : ∀ {xs : List α} {ys : List β}, allR f xs = some ys → allR f (xs ++ [x]) = some (ys ++ [y])
  | [], _, h => by
    cases h
    show allR f [x] = _
    unfold allR
    rw [e]
    rfl
  | a :: r, ys, h => by
    rw [List.cons_append]
    unfold allR at h ⊢
    cases e1 : f a with
    | none => rw [e1] at h; cases h
    | some b =>
      rw [e1] at h
      cases e2 : allR f r with
      | none => rw [e2] at h; cases h
      | some bs =>
        rw [e2] at h
        cases h
        show (match allR f (r ++ [x]) with
          | none => none
          | some bs => some (b :: bs)) = _
        rw [allR_snoc e e2]
        rfl
def spEntryT (CT : Addr) : Sp := fun vs H Q E => ∃ (z : Str) (A S t : Int), vs = [.str z, .int A, .int S, .int t] ∧ z.length ≤ 1000000 ∧ match entR A S z with
  | some r => ∀ H' q, Same H H' → H q = none → H' q = some (.lst (r.map V.int)) → Q (.ref q) H'
  | none => ∀ H' q, Same H H' → H' q = none → E (.ref CT) (some q) (upd H' q (.xd [(("at" : Str), .int t)]))
theorem lc_entry {K : PySem.W.Frag} {CT : Addr} {ws : List Str} {a D : Addr} {σ : St} {H1 : Hp} {Qd : Hp → Prop} {Wc : XK} {t : Int} (hl : σ.length = 6) (ht : σ[3]? = some (some (.int t))) (he : H1 a = some (.lst (ws.map V.str))) (hz : ∀ x ∈ ws, x.length ≤ 1000000) (hn : ws.length ≤ 1000001) (hD : H1 D = none)
    (hx : ∀ w ∈ ws, numR w = none → ∀ H' q, Same H1 H' → H' q = none → Wc (.ref CT) (some q) (upd H' q (.xd [(("at" : Str), .int t)])))
    (hd : ∀ ns H', allR numR ws = some ns → Same H1 H' → H' D = some (.lst (ns.map V.int)) → Qd H') :
    ∃ W : Nat → Nat → Hp → Prop, (∃ m, W 0 m (upd H1 D (.lst []))) ∧ ∀ i m H, W i m H →
      ((Itl K a).stop i H ∧ Qd H) ∨ ((Itl K a).go i H ∧ ∃ Nx : Hp → Prop, (∀ H', Nx H' → ∃ m', m' < m ∧ W (i + 1) m' H') ∧ ∀ x H', (Itl K a).yld i H x H' → gName 5 x (wipe σ [5]) H' fun σ2 H2 => wipe σ2 [5] = wipe σ [5] ∧ tYes σ2 H2 fun b H3 =>
        if b = true then (tCallS (spNumber CT) (fun _ => Wc) (tCons (tVar 5) (tCons (tVar 3) tNil))) σ2 H3 fun y H4 => ∃ acc, H4 D = some (.lst acc) ∧ acc.length < sizeLine ∧ Nx (upd H4 D (.lst (acc ++ [y]))) else Nx H3) := by
  refine lc_it walk_list (fun i H => Same H1 H ∧ ∃ ns, allR numR (ws.take i) = some ns ∧ H D = some (.lst (ns.map V.int))) ⟨Same.new hD, [], rfl, upd_same⟩ (fun i H _ p => SqL.of (p.1 _ _ he)) ?_ (fun H p => ?_)
  · rintro i x H H' hi ⟨p1, ns, p2, p3⟩ ⟨rfl, hx'⟩
    obtain ⟨w, hw, rfl⟩ : ∃ w, ws[i]? = some w ∧ x = .str w := by
      rw [List.getElem?_map] at hx'
      cases e : ws[i]? with
      | none => rw [e] at hx'; cases hx'
      | some w => rw [e] at hx'; cases hx'; exact ⟨w, rfl, rfl⟩
    have hm : w ∈ ws := List.mem_of_getElem? hw
    refine ⟨wipe1 _ _ _, ?_⟩
    refine tYes_go ?_
    simp only [↓reduceIte]
    have h3 : (List.set (wipe σ [5]) 5 (some (V.str w)))[3]? = some (some (.int t)) := by
      rw [List.getElem?_set_ne (by decide)]
      show (σ.set 5 none)[3]? = _
      rw [List.getElem?_set_ne (by decide)]
      exact ht
    refine ⟨_, List.getElem?_set_self (by rw [wipe_length, hl]; decide), .int t, h3, w, t, rfl, hz w hm, ?_⟩
    cases e : numR w with
    | none => exact fun H2 q S2 hq => hx w hm e H2 q (p1.trans S2) hq
    | some n =>
      refine fun H2 S2 => ⟨_, S2 _ _ p3, ?_, ((KP.same (S := fun _ => False) (p1.trans S2)).mut hD).toSame, ns ++ [n], ?_, ?_⟩
      · rw [List.length_map, allR_len p2, List.length_take]
        exact Nat.lt_of_le_of_lt (Nat.le_trans (Nat.min_le_right _ _) hn) (by decide)
      · rw [take_next hw]
        exact allR_snoc e p2
      · rw [upd_same, List.map_append]
        rfl
  · obtain ⟨p1, ns, p2, p3⟩ := p
    rw [List.length_map, List.take_length] at p2
    exact hd ns H p2 p1 p3
section
variable {P : Program} {w : World} {K : PySem.W.Frag} {mg : Str → Option Value} {base : Heap} {CT fCT : Addr}
theorem ok_entry3 {f fN : Addr} {fd fdN : FuncData} (A0 : Df K mg "_entry" s_entry f fd P_entry) (T : Txt mg) (G_number : FnOk P w K mg base (L2.CX P w) 6 fN fdN P_number (spNumber CT)) (d_number : Df K mg "_number" s_number fN fdN P_number) (TT : PySem.ErrX.ErrTxt K mg "InvalidText" "InvalidText.__init__" CT fCT) : FnOk P w K mg base (L2.CX P w) 7 f fd P_entry (spEntryT CT) := by
  refine A0.F.okX sc_entry (fun vs H Q E h => ?_) (fun cdv Ar outer s H vs Q E hr h => ?_)
  · obtain ⟨z, A, S, t, rfl, _⟩ := h
    rfl
  · obtain ⟨z, A, S, t, rfl, hz, kR⟩ := h
    have tk : Takes (cxOf (L2.CX P w) P w K mg base N_entry "_entry" (defScope s_entry) f cdv Ar outer s H E) (fun cls d _ H => E cls d H) := takes_of rfl rfl rfl rfl
    refine ⟨_, (pss_cons (ps_setLcE (i := 4) (own := [("word", 5)]) (g := gName 5) (tt := tYes) (te := fun Wc => tCallS (spNumber CT) (fun _ => Wc) (tCons (tVar 5) (tCons (tVar 3) tNil))) tk rfl rfl rfl sc_entry.nd rfl rfl (sw_true rfl rfl rfl (by decide +kernel)) (pi_list (pe_split (pv 0) pe_str)) (blkOk_by (N := N_entry) (sc := defScope s_entry) (by decide +kernel)) (fun _ _ _ _ _ => (pg_name (i := 5) sc_entry.nd rfl (Or.inl rfl))) (fun _ _ _ _ _ => pts_nil) (fun Wc _ _ _ _ _ => (pe_callS G_number (hr.mono (by decide)) rfl d_number.g d_number.F.kp d_number.b passE (pa_cons (pv 5) (pa_cons (pv 3) pa_nil)))))
    (pss_cons (ps_if (PW.pt (pw_or (pt_cmpR op_ne (pe_callB call_len_seq (by rfl) T.len PySem.boot_len (pa_cons (pv 4) pa_nil)) (pv 1) (nomark _)) (pw_or1 (pt_cmpR op_ge (pe_callB (cr_max rfl) (by rfl) T.max (by decide +kernel) (pa_cons (pv 4) pa_nil)) (pv 2) (nomark _))))) (pss_one (ps_raiseLow rfl TT hr tk (pa_cons (pv 3) pa_nil) (by rfl))) pss_nil)
    (pss_one (ps_ret (pv 4))))), ?_⟩
    have rs : entR A S z = none → ∀ H' q, Same H H' → H' q = none → E (.ref CT) (some q) (upd H' q (.xd [(("at" : Str), .int t)])) := fun e => by
      rw [e] at kR
      exact kR
    have rt : ∀ r, entR A S z = some r → ∀ H' q, Same H H' → H q = none → H' q = some (.lst (r.map V.int)) → Q (.ref q) H' := fun r e => by
      rw [e] at kR
      exact kR
    refine ⟨_, rfl, ⟨z, rfl⟩, z, _, rfl, rfl, by decide, by show _ ≤ 16777216 - 0; omega, fun p hp => ?_⟩
    have e8 : (Str.ofString " ") = chr1 32 := by decide +kernel
    rw [e8]
    have hw : ∀ x ∈ Txt.split z (chr1 32), x.length ≤ 1000000 := fun x hx => Nat.le_trans (split_mem_le hx) hz
    have hn : (Txt.split z (chr1 32)).length ≤ 1000001 := Nat.le_trans split_len_le (by omega)
    have h0 : Txt.split z (chr1 32) ≠ [] := split_ne _ _
    have hR : entR A S z = entN A S (allR numR (Txt.split z (chr1 32))) := rfl
    generalize Txt.split z (chr1 32) = ws at *
    have S1 : Same H (upd H p (.lst (ws.map V.str))) := Same.new hp
    have e1 : upd H p (.lst (ws.map V.str)) p = some (.lst (ws.map V.str)) := upd_same
    generalize upd H p (.lst (ws.map V.str)) = H1 at *
    refine ⟨p, rfl, ⟨_, SqL.of e1⟩, fun D hD => ?_⟩
    refine lc_entry (t := t) rfl rfl e1 hw hn hD (fun w hm e H' q S2 hq => ?_) (fun ns H2 ens S2 e2 => ?_)
    · exact rs (by rw [hR, allR_none e hm]; rfl) H' q (S1.trans S2) hq
    · have S12 := S1.trans S2
      have eL : (ns.length : Int) = (ws.length : Int) := by rw [allR_len ens]
      have hR : entR A S z = if (ns.length : Int) = A ∧ (∀ n ∈ ns, n < S) then some ns else none := by
        rw [hR, ens]
        rfl
      have hD0 : H D = none := by
        cases e : H D with
        | none => rfl
        | some o => rw [S1 _ _ e] at hD; cases hD
      refine ⟨_, rfl, D, _, rfl, .inl (SqL.of e2), _, rfl, rfl, _, rfl, ?_⟩
      rw [dec_intI, List.length_map]
      by_cases hA : (ns.length : Int) = A
      · rw [decide_eq_true hA]
        refine iteF ?_
        refine ⟨_, rfl, D, ns, rfl, SqL.of e2, ?_, fun m hm hb => ⟨_, rfl, _, _, rfl, rfl, _, rfl, ?_⟩⟩
        · rw [allR_len ens]
          exact List.length_pos_iff.mpr h0
        · by_cases hS : S ≤ m
          · rw [decide_eq_true hS]
            have : entR A S z = none := by
              rw [hR, if_neg]
              exact fun q => absurd (q.2 m hm) (by omega)
            exact iteT ⟨_, rfl, _, rfl, fun q hq => rs this H2 q S12 hq⟩
          · rw [decide_eq_false hS]
            have : entR A S z = some ns := by
              rw [hR, if_pos ⟨hA, fun n hn => by have := hb n hn; omega⟩]
            exact iteF ⟨_, rfl, rt ns this H2 D S12 hD0 e2⟩
      · rw [decide_eq_false hA]
        have : entR A S z = none := by
          rw [hR, if_neg (fun q => hA q.1)]
        exact iteT (iteT ⟨_, rfl, _, rfl, fun q hq => rs this H2 q S12 hq⟩)
end
end Lk

set_option Elab.async false
set_option linter.all false
set_option maxRecDepth 100000
set_option maxHeartbeats 4000000
namespace Lk
open PySem L2
abbrev s_read_machine : Stmt := top 18
abbrev N_read_machine : List Str := ["text", "lines", "commands", "states", "steps", "at"]
abbrev P_read_machine : List Str := ["text"]
theorem sc_read_machine : FnScope N_read_machine P_read_machine (defScope s_read_machine) := ⟨rfl, rfl, rfl, by decide +kernel, rfl, by decide +kernel, by decide +kernel⟩
theorem numR_bnd {z : Str} {n : Int} (h : numR z = some n) : 0 ≤ n ∧ n ≤ 99 := by
  unfold numR at h
  generalize z.cps.toList = l at h
  match l, h with
  | [], h => cases h
  | [c], h =>
    rw [numL1] at h
    by_cases hc : 48 ≤ c ∧ c ≤ 57
    · rw [if_pos hc] at h
      have := Option.some.inj h
      omega
    · rw [if_neg hc] at h
      cases h
  | [c, d], h =>
    rw [numL2] at h
    by_cases hc : (48 ≤ c ∧ c ≤ 57) ∧ 48 ≤ d ∧ d ≤ 57
    · rw [if_pos hc] at h
      by_cases hz : c = 48
      · rw [if_pos hz] at h
        cases h
      · rw [if_neg hz] at h
        have := Option.some.inj h
        omega
    · rw [if_neg hc] at h
      cases h
  | _ :: _ :: _ :: _, h => cases h
theorem headR_bnd {z : Str} {A S : Int} (h : headR z = some (A, S)) : 0 < A ∧ A ≤ 99 ∧ 0 < S ∧ S ≤ 99 := by
  by_cases h3 : (Txt.split z (chr1 32)).length = 3
  · obtain ⟨a, b, c, e⟩ := len3 h3
    rw [headR_3 e] at h
    by_cases ha : a = ("machine" : Str)
    · rw [if_pos ha] at h
      cases nb : numR b with
      | none => rw [nb] at h; cases h
      | some n =>
        cases nc : numR c with
        | none => rw [nb, nc] at h; cases h
        | some m =>
          rw [nb, nc] at h
          have h : (if n = 0 ∨ m = 0 then none else some (n, m)) = some (A, S) := h
          by_cases h0 : n = 0 ∨ m = 0
          · rw [if_pos h0] at h
            cases h
          · rw [if_neg h0] at h
            cases h
            have := numR_bnd nb
            have := numR_bnd nc
            omega
    · rw [if_neg ha] at h
      cases h
  · rw [headR_n h3] at h
    cases h
theorem allR_mem {α β : Type} {f : α → Option β} : ∀ {xs : List α} {ys : List β}, allR f xs = some ys → ∀ y ∈ ys, ∃ x ∈ xs, f x = some y
  | [], _, h, y, hy => by
    cases h
    cases hy
  | a :: r, ys, h, y, hy => by
    unfold allR at h
    cases e : f a with
    | none => rw [e] at h; cases h
    | some b =>
      rw [e] at h
      cases e2 : allR f r with
      | none => rw [e2] at h; cases h
      | some bs =>
        rw [e2] at h
        cases h
        rcases List.mem_cons.mp hy with q | q
        · exact ⟨a, List.mem_cons_self, by rw [e, q]⟩
        · obtain ⟨x, hx, ex⟩ := allR_mem e2 y q
          exact ⟨x, List.mem_cons_of_mem _ hx, ex⟩
theorem entR_bnd {A S : Int} {z : Str} {r : List Int} (h : entR A S z = some r) : (r.length : Int) = A ∧ ∀ n ∈ r, 0 ≤ n ∧ n < S := by
  unfold entR at h
  cases e : allR numR (Txt.split z (chr1 32)) with
  | none => rw [e] at h; cases h
  | some ns =>
    rw [e] at h
    have h : (if (ns.length : Int) = A ∧ (∀ n ∈ ns, n < S) then some ns else none) = some r := h
    by_cases q : (ns.length : Int) = A ∧ (∀ n ∈ ns, n < S)
    · rw [if_pos q] at h
      cases h
      refine ⟨q.1, fun n hn => ⟨?_, q.2 n hn⟩⟩
      obtain ⟨x, _, ex⟩ := allR_mem e n hn
      exact (numR_bnd ex).1
    · rw [if_neg q] at h
      cases h
theorem allR_isNone {A S : Int} {xs : List Str} {ys : List (List Int)} (h : allR (entR A S) xs = some ys) : ∀ l ∈ xs, (entR A S l).isNone = false := by
  intro l hl
  cases e : entR A S l with
  | none => rw [allR_none e hl] at h; cases h
  | some r => rfl
section
variable {A S : Int} {k i : Nat} {r : List Str} {ys : List (List Int)}
/-- the walk behind i lines -/
theorem goR_end (h : allR (entR A S) (r.take i) = some ys) (hk : i < k) (e : r.length = i) : goR A S k r 1 = some (1 + i) := by
  have e2 : r.take i = r := List.take_of_length_le (by omega)
  rw [e2] at h
  have := goR_miss (at_ := 1) (k := k) (allR_isNone h) (by omega)
  rw [this, e]
theorem goR_wrong {x : Str} (h : allR (entR A S) (r.take i) = some ys) (hk : i < k) (hx : r[i]? = some x) (e : entR A S x = none) : goR A S k r 1 = some (1 + i) := by
  have hi : i < r.length := (List.getElem?_eq_some_iff.mp hx).1
  have e2 : r = r.take i ++ x :: r.drop (i + 1) := by
    have e3 : r.drop i = x :: r.drop (i + 1) := by
      rw [List.drop_eq_getElem_cons hi]
      congr 1
      exact (List.getElem?_eq_some_iff.mp hx).2
    rw [← e3, List.take_append_drop]
  have hl : (r.take i).length = i := by
    rw [List.length_take]
    omega
  have := goR_bad (at_ := 1) (k := k) (post := r.drop (i + 1)) e (allR_isNone h) (by omega)
  rw [← e2, hl] at this
  exact this
theorem goR_long (h : allR (entR A S) (r.take k) = some ys) (hk : k < r.length) : goR A S k r 1 = some (1 + k) := by
  have hl : (r.take k).length = k := by
    rw [List.length_take]
    omega
  have e2 : r = r.take k ++ r[k] :: r.drop (k + 1) := by
    have e3 : r.drop k = r[k] :: r.drop (k + 1) := List.drop_eq_getElem_cons hk
    rw [← e3, List.take_append_drop]
  have := goR_more (at_ := 1) (x := r[k]) (post := r.drop (k + 1)) (allR_isNone h)
  rw [hl, ← e2] at this
  exact this
theorem goR_full (h : allR (entR A S) (r.take k) = some ys) (hk : r.length = k) : goR A S k r 1 = none := by
  have e2 : r.take k = r := List.take_of_length_le (by omega)
  rw [e2] at h
  rw [← hk]
  exact goR_ok (allR_isNone h)
end
theorem readR_split {z : Str} {l : Str} {r : List Str} (h : Txt.split z (chr1 10) = l :: r) : readR z = match headR l with
    | none => some 0
    | some (A, S) => goR A S S.toNat r 1 := by
  unfold readR
  rw [h] <;> rfl
theorem tellR_split {z : Str} {l : Str} {r : List Str} (h : Txt.split z (chr1 10) = l :: r) : tellR z = match headR l with
    | none => none
    | some (A, S) => match allR (entR A S) r with
      | none => none
      | some rs => some (A, rs) := by
  unfold tellR
  rw [h] <;> rfl
def isStrD : PyData → Bool
  | .str _ => true
  | _ => false
theorem kit_str {K : PySem.W.Frag} (d : PyData) : PySem.W.kitOne K (.type (tyD d)) (.type "str") = some (isStrD d) := by
  cases d with
  | none => exact kit_ty (a := "NoneType") (by decide +kernel)
  | bool b => exact kit_ty (a := "bool") (r := false) (by decide +kernel)
  | int i => exact kit_ty (a := "int") (r := false) (by decide +kernel)
  | str x => exact kit_ty (a := "str") (r := true) (by decide +kernel)
  | list x => exact kit_ty (a := "list") (r := false) (by decide +kernel)
  | tuple x => exact kit_ty (a := "tuple") (r := false) (by decide +kernel)
  | dict x => exact kit_ty (a := "dict") (r := false) (by decide +kernel)
def readD : PyData → Option Nat
  | .str z => readR z
  | _ => some 0
def spRead (CM CT : Addr) : Sp := fun vs H Q E => ∃ (x : V) (d : PyData), vs = [x] ∧ Dv H x d ∧ (∀ z, d = .str z → z.length ≤ 1000000) ∧ match readD d with
  | some k => ∀ H' q, Same H H' → H' q = none → E (.ref CT) (some q) (upd H' q (.xd [(("at" : Str), .int (k : Int))]))
  | none => ∀ z A rs H' m us, d = .str z → tellR z = some (A, rs) → Same H H' → H m = none → MachAt CM H' m A us → rsOf us = rs → Q (.ref m) H'
section
variable {P : Program} {w : World} {K : PySem.W.Frag} {mg : Str → Option Value} {base : Heap} {CT fCT CM CE fI : Addr} {fdI : FuncData}
theorem ok_read3 {f fH fE : Addr} {fd fdH fdE : FuncData} (A0 : Df K mg "read_machine" s_read_machine f fd P_read_machine) (T : Txt mg) (mS : mg "str" = none) (G_head : FnOk P w K mg base (L2.CX P w) 7 fH fdH P_head (spHead CT)) (d_head : Df K mg "_head" s_head fH fdH P_head) (G_entry : FnOk P w K mg base (L2.CX P w) 7 fE fdE P_entry (spEntryT CT)) (d_entry : Df K mg "_entry" s_entry fE fdE P_entry)
    (MC : McT K mg CM fI fdI) (GI : FnOk P w K mg base (L2.CX P w) 7 fI fdI P_Machine___init (spInit CM CE)) (TT : PySem.ErrX.ErrTxt K mg "InvalidText" "InvalidText.__init__" CT fCT) : FnOk P w K mg base (L2.CX P w) 9 f fd P_read_machine (spRead CM CT) := by
  refine A0.F.okX sc_read_machine (fun vs H Q E h => ?_) (fun cdv Ar outer s H vs Q E hr h => ?_)
  · obtain ⟨x, d, rfl, _⟩ := h
    rfl
  · obtain ⟨x, d, rfl, D, hz, kR⟩ := h
    have tk : Takes (cxOf (L2.CX P w) P w K mg base N_read_machine "read_machine" (defScope s_read_machine) f cdv Ar outer s H E) (fun cls d _ H => E cls d H) := takes_of rfl rfl rfl rfl
    refine ⟨_, (pss_cons (ps_if (pt_not (pt_val (pe_callB call_isi (by rfl) T.isinstance PyProof.Rows.boot_isinstance (pa_cons (pv 0) (pa_cons (pe_bltn (v := .ty "str") (by rfl) mS (by decide +kernel) rfl) pa_nil))))) (pss_one (ps_raiseLow rfl TT hr tk (pa_cons pe_int pa_nil) (by rfl))) pss_nil)
    (pss_cons (ps_set (i := 1) sc_read_machine.nd rfl (Or.inl rfl) (pe_split (pv 0) pe_str))
    (pss_cons (ps_asg (pe_callS G_head (hr.mono (by decide)) rfl d_head.g d_head.F.kp d_head.b (fun σ => passAt tk σ) (pa_cons (pe_ix ix_list (pv 1) pe_int (fun _ _ => rfl)) pa_nil)) (pg_tup rfl (pgs_cons (pg_name (i := 2) sc_read_machine.nd rfl (Or.inl rfl)) (pgs_cons (pg_name (i := 3) sc_read_machine.nd rfl (Or.inl rfl)) pgs_nil))))
    (pss_cons (ps_set (i := 4) sc_read_machine.nd rfl (Or.inl rfl) (pe_lst pa_nil))
    (pss_cons (ps_for (passes_of rfl) rfl (pi_range2 rfl T.range (pa_cons pe_int (pa_cons (pe_op op_add (pv 3) pe_int) pa_nil))) (pg_name (i := 5) sc_read_machine.nd rfl (Or.inl rfl))
      (pss_cons (ps_if (pt_cmpR op_eq (pv 5) (pe_callB call_len_seq (by rfl) T.len PySem.boot_len (pa_cons (pv 1) pa_nil)) (nomark _)) (pss_one (ps_raiseLow rfl TT hr tk (pa_cons (pv 5) pa_nil) (by rfl))) pss_nil)
      (pss_one (ps_expr (pe_bm PySem.F.plainAttrs_list PySem.F.slot_list_append PySem.F.type_list_append mt_append (pv 4) (pa_cons (pe_callS G_entry (hr.mono (by decide)) rfl d_entry.g d_entry.F.kp d_entry.b (fun σ => passAt tk σ) (pa_cons (pe_ix ix_list (pv 1) (pv 5) (fun _ _ => rfl)) (pa_cons (pv 2) (pa_cons (pv 3) (pa_cons (pv 5) pa_nil))))) pa_nil))))))
    (pss_cons (ps_if (pt_cmpR op_gt (pe_callB call_len_seq (by rfl) T.len PySem.boot_len (pa_cons (pv 1) pa_nil)) (pe_op op_add (pv 3) pe_int) (nomark _)) (pss_one (ps_raiseLow rfl TT hr tk (pa_cons (pe_op op_add (pv 3) pe_int) pa_nil) (by rfl))) pss_nil)
    (pss_one (ps_ret (pe_make MC.mM GI (hr.mono (by decide)) rfl MC.g MC.b .nil (pass_never (P := P) (w := w)) (pa_cons (pv 2) (pa_cons (pv 4) pa_nil))))))))))), ?_⟩
    have rs : ∀ k, readD d = some k → ∀ t : Int, t = (k : Int) → ∀ H' q, Same H H' → H' q = none → E (.ref CT) (some q) (upd H' q (.xd [(("at" : Str), .int t)])) := fun k e t et => by
      rw [e] at kR
      rw [et]
      exact kR
    have rk : readD d = none → ∀ z A rs H' m us, d = .str z → tellR z = some (A, rs) → Same H H' → H m = none → MachAt CM H' m A us → rsOf us = rs → Q (.ref m) H' := fun e => by
      rw [e] at kR
      exact kR
    refine ⟨_, rfl, x, _, _, _, isStrD d, rfl, .ty _, D.ty, kit_str d, _, rfl, ?_⟩
    cases D with
    | non => exact iteT ⟨_, rfl, fun q hq => rs 0 rfl 0 rfl H q (Same.refl _) hq⟩
    | bl b => exact iteT ⟨_, rfl, fun q hq => rs 0 rfl 0 rfl H q (Same.refl _) hq⟩
    | int b => exact iteT ⟨_, rfl, fun q hq => rs 0 rfl 0 rfl H q (Same.refl _) hq⟩
    | lst _ _ => exact iteT ⟨_, rfl, fun q hq => rs 0 rfl 0 rfl H q (Same.refl _) hq⟩
    | tup _ _ => exact iteT ⟨_, rfl, fun q hq => rs 0 rfl 0 rfl H q (Same.refl _) hq⟩
    | dct _ => exact iteT ⟨_, rfl, fun q hq => rs 0 rfl 0 rfl H q (Same.refl _) hq⟩
    | str z =>
      refine iteF ?_
      have hz := hz z rfl
      refine ⟨_, rfl, ⟨z, rfl⟩, z, _, rfl, rfl, by decide, by show _ ≤ 16777216 - 0; omega, fun p hp => ?_⟩
      have e8 : (Str.ofString "\n") = chr1 10 := by decide +kernel
      rw [e8]
      have hw : ∀ x ∈ Txt.split z (chr1 10), x.length ≤ 1000000 := fun x hx => Nat.le_trans (split_mem_le hx) hz
      have hn : (Txt.split z (chr1 10)).length ≤ 1000001 := Nat.le_trans split_len_le (by omega)
      obtain ⟨l, r, e0⟩ := List.exists_cons_of_ne_nil (split_ne z 10)
      have hR := readR_split e0
      have hT := tellR_split e0
      rw [e0] at hw hn ⊢
      clear e0
      have S1 : Same H (upd H p (.lst ((l :: r).map V.str))) := Same.new hp
      have e1 : upd H p (.lst ((l :: r).map V.str)) p = some (.lst ((l :: r).map V.str)) := upd_same
      generalize upd H p (.lst ((l :: r).map V.str)) = H1 at *
      have hl : l.length ≤ 1000000 := hw l List.mem_cons_self
      refine ⟨_, rfl, p, _, 0, .str l, rfl, rfl, SqL.of e1, atI_int (by decide) rfl, l, rfl, hl, ?_⟩
      cases eh : headR l with
      | none =>
        rw [eh] at hR
        exact fun H' q S2 hq => rs 0 hR 0 rfl H' q (S1.trans S2) hq
      | some AS =>
        obtain ⟨A, S⟩ := AS
        rw [eh] at hR hT
        have hR : readR z = goR A S S.toNat r 1 := hR
        obtain ⟨A0, A9, S0, S9⟩ := headR_bnd eh
        refine fun H2 q S2 hq => ?_
        refine ⟨q, [.int A, .int S], rfl, SqT.of upd_same, rfl, _, _, rfl, _, _, rfl, rfl, ?_⟩
        have S2' := (S1.trans S2).trans (Same.new (o := .tup [.int A, .int S]) hq)
        have e2 : upd H2 q (.tup [.int A, .int S]) p = some (.lst ((l :: r).map V.str)) := (Same.new hq) _ _ (S2 _ _ e1)
        generalize upd H2 q (.tup [.int A, .int S]) = H3 at *
        refine ⟨Nat.zero_le _, fun L hL => ?_⟩
        refine ⟨_, rfl, _, _, rfl, rfl, 1, S + 1, rfl, by omega, ?_⟩
        rw [show S + 1 - 1 = S by omega]
        refine for_it (n := S.toNat) walk_range (fun i σ H4 => ∃ (o : Option V) (vs : List (Addr × List Int)), σ = [some (.str z), some (.ref p), some (.int A), some (.int S), some (.ref L), o] ∧ i ≤ r.length ∧ allR (entR A S) (r.take i) = some (rsOf vs) ∧ Same H3 H4 ∧ GridAt H4 L vs ∧ ∀ t ∈ vs, t.1 ≠ L) ⟨_, [], rfl, Nat.zero_le _, rfl, Same.new hL, ⟨upd_same, fun t ht => by cases ht⟩, fun t ht => by cases ht⟩ (fun _ _ _ _ _ => trivial) ?_ ?_
        · rintro i x σ H4' H4 hi ⟨o, vs, rfl, hir, ha, S4, G, nL⟩ ⟨rfl, rfl⟩
          have e4 := S4 _ _ e2
          have hvl : vs.length ≤ 1000001 := by
            have := allR_len ha
            rw [rsOf_len, List.length_take] at this
            rw [List.length_cons] at hn
            omega
          refine ⟨_, rfl, _, rfl, p, _, rfl, .inl (SqL.of e4), rfl, _, rfl, ?_⟩
          rw [dec_intI]
          by_cases hri : r.length = i
          · rw [decide_eq_true (by rw [List.length_map, List.length_cons, hri]; omega)]
            exact iteT ⟨_, rfl, _, rfl, fun q hq => rs (1 + i) (by show readR z = _; rw [hR]; exact goR_end ha hi hri) _ (by omega) H4 q (S2'.trans S4) hq⟩
          · rw [decide_eq_false (by rw [List.length_map, List.length_cons]; omega)]
            refine iteF ?_
            have hlt : i < r.length := by omega
            have hx : r[i]? = some r[i] := List.getElem?_eq_getElem hlt
            generalize r[i] = y at hx
            have hy : y.length ≤ 1000000 := hw y (List.mem_cons_of_mem _ (List.mem_of_getElem? hx))
            have ix : atI ((l :: r).map V.str) (1 + (i : Int)) = some (V.str y) := atI_int (by omega) (by
              rw [show (1 + (i : Int)).toNat = i + 1 by omega, List.map_cons, List.getElem?_cons_succ, List.getElem?_map, hx]
              rfl)
            refine ⟨_, rfl, .inl ⟨rfl, _, SqL.of G.top⟩, _, rfl, _, rfl, p, _, 1 + (i : Int), .str y, rfl, rfl, SqL.of e4, ix, _, rfl, _, rfl, _, rfl, y, A, S, 1 + (i : Int), rfl, hy, ?_⟩
            cases ee : entR A S y with
            | none => exact fun H' q S5 hq => rs (1 + i) (by show readR z = _; rw [hR]; exact goR_wrong ha hi hx ee) _ (by omega) H' q ((S2'.trans S4).trans S5) hq
            | some row =>
              refine fun H5 q S5 hq0 hq5 => ⟨L, _, .ref q, rfl, rfl, S5 _ _ G.top, ?_, _, vs ++ [(q, row)], rfl, hlt, ?_, ((KP.same (S := fun _ => False) (S4.trans S5)).mut hL).toSame, ⟨?_, fun t ht => ?_⟩, fun t ht => ?_⟩
              · rw [List.length_map]
                exact Nat.lt_of_le_of_lt hvl (by decide)
              · rw [take_next hx]
                have := allR_snoc ee ha
                rw [this]
                unfold rsOf
                rw [List.map_append]
                rfl
              · rw [upd_same, List.map_append]
                rfl
              · rcases List.mem_append.mp ht with h | h
                · rw [upd_ne (nL t h)]
                  exact S5 _ _ (G.row t h)
                · rw [List.mem_singleton.mp h, upd_ne (fun e => by
                    have e : q = L := e
                    rw [e, G.top] at hq0
                    cases hq0)]
                  exact hq5
              · rcases List.mem_append.mp ht with h | h
                · exact nL t h
                · rw [List.mem_singleton.mp h]
                  intro e
                  have e : q = L := e
                  rw [e, G.top] at hq0
                  cases hq0
        · rintro σ H4 ⟨o, vs, rfl, hir, ha, S4, G, nL⟩
          have e4 := S4 _ _ e2
          have hvl : vs.length = S.toNat := by
            have := allR_len ha
            rw [rsOf_len, List.length_take] at this
            omega
          refine ⟨_, rfl, p, _, rfl, .inl (SqL.of e4), _, rfl, _, _, rfl, rfl, _, _, rfl, rfl, _, rfl, ?_⟩
          by_cases hlt : S.toNat < r.length
          · rw [decide_eq_true (by rw [List.length_map, List.length_cons]; omega)]
            exact iteT ⟨_, rfl, _, _, rfl, rfl, _, rfl, fun q hq => rs (1 + S.toNat) (by show readR z = _; rw [hR]; exact goR_long ha hlt) _ (by omega) H4 q (S2'.trans S4) hq⟩
          · rw [decide_eq_false (by rw [List.length_map, List.length_cons]; omega)]
            have hre : r.length = S.toNat := by omega
            have hN : readR z = none := by
              rw [hR]
              exact goR_full ha hre
            rw [List.take_of_length_le (by omega)] at ha
            have hT : tellR z = some (A, rsOf vs) := by
              rw [hT]
              show (match allR (entR A S) r with
                | none => none
                | some rs => some (A, rs)) = _
              rw [ha]
            refine iteF ?_
            obtain ⟨n, rfl⟩ : ∃ n : Nat, A = (n : Int) := ⟨A.toNat, by omega⟩
            refine ⟨_, rfl, _, rfl, make_rows (by omega) (by omega) G ⟨by rw [rsOf_len]; omega, fun row hrow => ?_⟩ (by omega) fun H' m us S5 hm M eu => rk hN z n _ H' m us rfl hT ((S2'.trans S4).trans S5) ?_ M eu⟩
            · obtain ⟨x, _, ex⟩ := allR_mem ha row hrow
              obtain ⟨b1, b2⟩ := entR_bnd ex
              refine ⟨by omega, fun z hz => ?_⟩
              rw [rsOf_len]
              have := b2 z hz
              omega
            · cases e : H m with
              | none => rfl
              | some o => rw [(S2'.trans S4) _ _ e] at hm; cases hm
end
end Lk

set_option Elab.async false
set_option linter.all false
set_option maxRecDepth 100000
set_option maxHeartbeats 4000000
namespace Lk
open PySem L2
abbrev s_machine_text : Stmt := top 17
abbrev N_machine_text : List Str := ["machine", "lines", "entry", "state"]
abbrev P_machine_text : List Str := ["machine"]
theorem sc_machine_text : FnScope N_machine_text P_machine_text (defScope s_machine_text) := ⟨rfl, rfl, rfl, by decide +kernel, rfl, by decide +kernel, by decide +kernel⟩
theorem log_small {z : Int} (h0 : 0 ≤ z) (h1 : z ≤ 99) : z.natAbs.log2 < 1920 := Nat.lt_of_le_of_lt (Nat.log2_le_self _) (by omega)
theorem txt_len {z : Int} (h0 : 0 ≤ z) (h1 : z ≤ 99) : (txtN z).length ≤ 2 := (txt_num h0 (by omega)).2.2
theorem lc_strs {J : It} {G : Hp → Prop} {Y : Nat → Hp → V → Hp → Prop} {row : List Int} {k : Nat} {σ : St} {H1 : Hp} {D : Addr} {Qd : Hp → Prop} (w : Walk J (row.map V.int).length G Y) (hG : ∀ H, Same H1 H → G H) (hY : ∀ i H x H', Y i H x H' → H' = H ∧ (row.map V.int)[i]? = some x) (hk : k < σ.length) (hz : ∀ z ∈ row, 0 ≤ z ∧ z ≤ 99) (hn : row.length ≤ 1000) (hD : H1 D = none) (hd : ∀ H', Same H1 H' → H' D = some (.lst ((row.map txtN).map V.str)) → Qd H') :
    ∃ W : Nat → Nat → Hp → Prop, (∃ m, W 0 m (upd H1 D (.lst []))) ∧ ∀ i m H, W i m H →
      (J.stop i H ∧ Qd H) ∨ (J.go i H ∧ ∃ Nx : Hp → Prop, (∀ H', Nx H' → ∃ m', m' < m ∧ W (i + 1) m' H') ∧ ∀ x H', J.yld i H x H' → gName k x (wipe σ [k]) H' fun σ2 H2 => wipe σ2 [k] = wipe σ [k] ∧ tYes σ2 H2 fun b H3 =>
        if b = true then (tCB (fun xs H Q => ∃ i, xs = [.int i] ∧ i.natAbs.log2 < 1920 ∧ Q (.str (toString i)) H) (tCons (tVar k) tNil)) σ2 H3 fun y H4 => ∃ acc, H4 D = some (.lst acc) ∧ acc.length < sizeLine ∧ Nx (upd H4 D (.lst (acc ++ [y]))) else Nx H3) := by
  refine lc_it w (fun i H => Same H1 H ∧ H D = some (.lst (((row.map txtN).take i).map V.str))) ⟨Same.new hD, upd_same⟩ (fun _ H _ p => hG H p.1) ?_ (fun H p => hd H p.1 (by
    have e := p.2
    rw [List.take_of_length_le (by rw [List.length_map, List.length_map]; exact Nat.le_refl _)] at e
    exact e))
  rintro i x H H' hi ⟨p1, p2⟩ hy
  obtain ⟨rfl, hx⟩ := hY i H x H' hy
  obtain ⟨z, hz', rfl⟩ : ∃ z, row[i]? = some z ∧ x = .int z := by
    rw [List.getElem?_map] at hx
    cases e : row[i]? with
    | none => rw [e] at hx; cases hx
    | some w => rw [e] at hx; cases hx; exact ⟨w, rfl, rfl⟩
  have hzb := hz z (List.mem_of_getElem? hz')
  refine ⟨wipe1 _ _ _, ?_⟩
  refine tYes_go ?_
  simp only [↓reduceIte]
  refine ⟨_, List.getElem?_set_self (by rw [wipe_length]; exact hk), z, rfl, log_small hzb.1 hzb.2, _, p2, ?_, ((KP.same (S := fun _ => False) p1).mut hD).toSame, ?_⟩
  · rw [List.length_map, List.length_take, List.length_map]
    exact Nat.lt_of_le_of_lt (Nat.le_trans (Nat.min_le_right _ _) hn) (by decide)
  · rw [upd_same, take_next (by rw [List.getElem?_map, hz']; rfl), List.map_append]
    rfl
theorem sum_le {xs : List Str} {n : Nat} (h : ∀ x ∈ xs, x.length ≤ n) : (xs.map (·.length)).sum ≤ xs.length * n := by
  induction xs with
  | nil => exact Nat.zero_le _
  | cons x r ih =>
    rw [List.map_cons, List.sum_cons, List.length_cons, Nat.succ_mul]
    have := h x List.mem_cons_self
    have := ih fun y hy => h y (List.mem_cons_of_mem _ hy)
    omega
theorem app_len (x y : Str) : (x ++ y).length = x.length + y.length := by
  show (x ++ y).cps.size = _
  rw [Str.cps_append, Array.size_append]
  rfl
theorem join_len_le (c : Nat) {n : Nat} : ∀ {xs : List Str}, (∀ x ∈ xs, x.length ≤ n) → (Str.join (chr1 c) xs).cps.toList.length ≤ xs.length * (n + 1)
  | [], _ => Nat.zero_le _
  | [x], h => by
    have := h x List.mem_cons_self
    show x.cps.toList.length ≤ _
    rw [Array.length_toList]
    have e : x.cps.size = x.length := rfl
    rw [e, List.length_singleton]
    omega
  | x :: y :: r, h => by
    have h1 := h x List.mem_cons_self
    have h2 := join_len_le c (xs := y :: r) fun z hz => h z (List.mem_cons_of_mem _ hz)
    rw [join_two, List.length_append, List.length_cons, List.length_cons (as := y :: r), Nat.succ_mul]
    have e : x.cps.toList.length = x.length := Array.length_toList
    omega
theorem joinT_len_le (c : Nat) {n : Nat} {xs : List Str} (h : ∀ x ∈ xs, x.length ≤ n) : (Txt.join (chr1 c) xs).length ≤ xs.length * (n + 1) := by
  have ej : Txt.join (chr1 c) xs = Str.join (chr1 c) xs := StrLaws.glued_eq_join _ _
  rw [ej]
  have := join_len_le c h
  rw [Array.length_toList] at this
  exact this
theorem row_len {row : List Int} (hz : ∀ z ∈ row, 0 ≤ z ∧ z ≤ 99) : (rowT row).length ≤ row.length * 3 := by
  have := joinT_len_le 32 (n := 2) (xs := row.map txtN) fun x hx => by
    obtain ⟨z, hz', rfl⟩ := List.mem_map.mp hx
    exact txt_len (hz z hz').1 (hz z hz').2
  rw [List.length_map] at this
  exact this
theorem head_len {A S : Int} (a0 : 0 ≤ A) (a9 : A ≤ 99) (s0 : 0 ≤ S) (s9 : S ≤ 99) : (headT A S).length ≤ 24 := by
  refine joinT_len_le 32 (n := 7) fun x hx => ?_
  rcases List.mem_cons.mp hx with e | hx
  · rw [e]
    show (7 : Nat) ≤ 7
    exact Nat.le_refl _
  rcases List.mem_cons.mp hx with e | hx
  · rw [e]
    have := txt_len a0 a9
    omega
  · rw [List.mem_singleton.mp hx]
    have := txt_len s0 s9
    omega
theorem head_eq (A S : Int) : ((((Str.empty ++ ("machine " : Str)) ++ txtN A) ++ (" " : Str)) ++ txtN S) = headT A S := by
  unfold headT
  have ej : Txt.join (chr1 32) [("machine" : Str), txtN A, txtN S] = Str.join (chr1 32) [("machine" : Str), txtN A, txtN S] := StrLaws.glued_eq_join _ _
  rw [ej]
  apply str_eq
  rw [join_two, join_two]
  show _ = ("machine" : Str).cps.toList ++ 32 :: ((txtN A).cps.toList ++ 32 :: (txtN S).cps.toList)
  simp only [Str.cps_append, Array.toList_append]
  have e1 : (Str.empty).cps.toList = [] := rfl
  have e2 : ("machine " : Str).cps.toList = ("machine" : Str).cps.toList ++ [32] := by decide +kernel
  have e3 : (" " : Str).cps.toList = [32] := by decide +kernel
  rw [e1, e2, e3]
  simp only [List.nil_append, List.append_assoc, List.singleton_append, List.cons_append]
def spText (CM : Addr) : Sp := fun vs H Q _ => ∃ (m : Addr) (A : Int) (us : List (Addr × List Int)), vs = [.ref m] ∧ MachAt CM H m A us ∧ (0 ≤ A ∧ A ≤ 99) ∧ us.length ≤ 99 ∧ (∀ u ∈ us, u.2.length ≤ 99 ∧ ∀ z ∈ u.2, 0 ≤ z ∧ z ≤ 99) ∧ ∀ H', Same H H' → Q (.str (Txt.join (chr1 10) (linesT A (rsOf us)))) H'
section
variable {P : Program} {w : World} {K : PySem.W.Frag} {mg : Str → Option Value} {base : Heap} {CM : Addr}
theorem ok_text1 {f : Addr} {fd : FuncData} (A0 : Df K mg "machine_text" s_machine_text f fd P_machine_text) (T : Txt mg) (mS : mg "str" = none) (TC : TxC K CM) : FnOk P w K mg base CX0 1 f fd P_machine_text (spText CM) := by
  refine A0.F.ok sc_machine_text (fun vs H Q E h => ?_) (fun cdv Ar outer s H vs Q E hr h => ?_)
  · obtain ⟨m, A, us, rfl, _⟩ := h
    rfl
  · obtain ⟨m, A, us, rfl, M, ⟨A0, A9⟩, hU, hu, kR⟩ := h
    refine ⟨_, (pss_cons (ps_set (i := 1) sc_machine_text.nd rfl (Or.inl rfl) (pe_lst (pa_cons (pe_joined (.cons pe_str (.cons (pe_fmt (pe_fld (pv 0) rfl)) (.cons pe_str (.cons (pe_fmt (pe_fld (pv 0) rfl)) .nil))))) pa_nil)))
    (pss_cons (ps_for PassesOwn.never rfl (pi_tup (pe_fld (pv 0) rfl)) (pg_name (i := 2) sc_machine_text.nd rfl (Or.inl rfl))
      (pss_one (ps_expr (pe_bm PySem.F.plainAttrs_list PySem.F.slot_list_append PySem.F.type_list_append mt_append (pv 1) (pa_cons (pe_join pe_str (pe_lc (own := [("state", 3)]) (g := gName 3) (tt := tYes) (te := tCB (fun xs H Q => ∃ i, xs = [.int i] ∧ i.natAbs.log2 < 1920 ∧ Q (.str (toString i)) H) (tCons (tVar 3) tNil)) rfl sc_machine_text.nd (pi_tup (pv 2)) (blkOk_by (N := N_machine_text) (sc := defScope s_machine_text) (by decide +kernel)) (fun _ _ _ _ _ => (pg_name (i := 3) sc_machine_text.nd rfl (Or.inl rfl))) (fun _ _ _ _ _ => pts_nil) (fun _ _ _ _ _ => (pe_callTy call_str_int (by rfl) mS (by decide +kernel) (pa_cons (pv 3) pa_nil))))) pa_nil)))))
    (pss_one (ps_ret (pe_join pe_str (pv 1)))))), ?_⟩
    obtain ⟨dx, t, hm, ht, hrow⟩ := M
    have U0 : (0 : Int) ≤ (us.length : Int) := by omega
    have U9 : (us.length : Int) ≤ 99 := by omega
    have l1 : (Str.empty ++ ("machine " : Str)).length = 8 := by decide +kernel
    have l2 : ((Str.empty ++ ("machine " : Str)) ++ txtN A).length ≤ 10 := by
      rw [app_len, l1]
      have := txt_len A0 A9
      omega
    have l3 : (((Str.empty ++ ("machine " : Str)) ++ txtN A) ++ (" " : Str)).length ≤ 11 := by
      rw [app_len]
      have : ((" " : Str)).length = 1 := by decide +kernel
      omega
    have l4 : ((((Str.empty ++ ("machine " : Str)) ++ txtN A) ++ (" " : Str)) ++ txtN (us.length : Int)).length ≤ 13 := by
      rw [app_len]
      have := txt_len U0 U9
      omega
    have sz : sizeLine = 16777216 := rfl
    refine ⟨_, rfl, by rw [l1]; decide, _, rfl, m, CM, dx, _, .int A, rfl, hm, TC.cl, TC.n1, rfl, .inr ⟨A, rfl, log_small A0 A9, _, rfl, Nat.le_trans l2 (by decide), _, rfl, Nat.le_trans l3 (by decide), _, rfl, m, CM, dx, _, .int (us.length : Int), rfl, hm, TC.cl, TC.n2, rfl, .inr ⟨(us.length : Int), rfl, log_small U0 U9, _, rfl, Nat.le_trans l4 (by decide), ?_⟩⟩⟩
    have eh := head_eq A (us.length : Int)
    generalize eHd : headT A (us.length : Int) = hd at eh
    refine ⟨by show 1 ≤ sizeLine; decide, fun L hL => ?_⟩
    have S1 : ∀ o, Same H (upd H L o) := fun o => Same.new hL
    have hM : ∀ {H4 : Hp}, Same H H4 → H4 m = some (.ins CM dx (fldM A (us.length : Int) t)) := fun S => S _ _ hm
    refine ⟨_, rfl, m, CM, dx, _, .ref t, rfl, S1 _ _ _ hm, TC.cl, TC.n3, rfl, t, rfl, ⟨_, SqT.of (S1 _ _ _ ht)⟩, ?_⟩
    have eL : linesT A (rsOf us) = hd :: (rsOf us).map rowT := by
      unfold linesT
      rw [rsOf_len, eHd]
    have lenL : (linesT A (rsOf us)).length = us.length + 1 := by
      rw [eL, List.length_cons, List.length_map, rsOf_len]
    have memL : ∀ x ∈ linesT A (rsOf us), x.length ≤ 297 := fun x hx => by
      rw [eL] at hx
      rcases List.mem_cons.mp hx with e | hx
      · rw [e, ← eHd]
        have := head_len A0 A9 U0 U9
        omega
      · obtain ⟨r, hr, rfl⟩ := List.mem_map.mp hx
        obtain ⟨u, hu', rfl⟩ := List.mem_map.mp hr
        have := row_len (hu u hu').2
        have := (hu u hu').1
        omega
    refine for_it walk_tup (fun i σ H4 => ∃ o : Option V, σ = [some (.ref m), some (.ref L), o, none] ∧ Same H H4 ∧ H4 L = some (.lst (((linesT A (rsOf us)).take (i + 1)).map V.str))) ⟨_, rfl, S1 _, ?_⟩ (fun i σ H4 _ p => by
      obtain ⟨o, _, S, _⟩ := p
      exact SqT.of (S _ _ ht)) ?_ ?_
    · rw [upd_same, eL]
      show _ = some (HO.lst [V.str hd])
      rw [← eh]
      rfl
    · rintro i x σ H4' H4 hi ⟨o, rfl, S4, eL4⟩ ⟨rfl, hx⟩
      obtain ⟨u, hu', rfl⟩ : ∃ u, us[i]? = some u ∧ x = .ref u.1 := by
        rw [List.getElem?_map] at hx
        cases e : us[i]? with
        | none => rw [e] at hx; cases hx
        | some w => rw [e] at hx; cases hx; exact ⟨w, rfl, rfl⟩
      have hmem := List.mem_of_getElem? hu'
      have er := S4 _ _ (hrow u hmem)
      refine ⟨_, rfl, .inl ⟨rfl, _, SqL.of eL4⟩, ⟨_, rfl⟩, _, rfl, u.1, rfl, ⟨_, SqT.of er⟩, fun D hD => ?_⟩
      refine lc_strs (row := u.2) walk_tup (fun H5 S5 => SqT.of (S5 _ _ er)) (fun _ _ _ _ h => h) (by show 3 < 4; decide) (hu u hmem).2 (by have := (hu u hmem).1; omega) hD (fun H5 S5 e5 => ?_)
      refine ⟨_, D, u.2.map txtN, rfl, rfl, .inl (SqL.of e5), ?_, ?_⟩
      · have := sum_le (xs := u.2.map txtN) (n := 2) fun x hx => by
          obtain ⟨z, hz, rfl⟩ := List.mem_map.mp hx
          exact txt_len ((hu u hmem).2 z hz).1 ((hu u hmem).2 z hz).2
        rw [List.length_map] at this ⊢
        have h1 : ((" " : Str)).length = 1 := by decide +kernel
        rw [h1]
        have := (hu u hmem).1
        omega
      · refine ⟨L, _, _, rfl, rfl, S5 _ _ eL4, ?_, _, rfl, ((KP.same (S := fun _ => False) (S4.trans S5)).mut hL).toSame, ?_⟩
        · rw [List.length_map, List.length_take, lenL]
          omega
        · rw [upd_same]
          have hx2 : (linesT A (rsOf us))[i + 1]? = some (rowT u.2) := by
            rw [eL, List.getElem?_cons_succ, List.getElem?_map]
            unfold rsOf
            rw [List.getElem?_map, hu']
            rfl
          rw [take_next hx2, List.map_append]
          rfl
    · rintro σ H4 ⟨o, rfl, S4, eL4⟩
      rw [List.length_map, List.take_of_length_le (by rw [lenL]; exact Nat.le_refl _)] at eL4
      refine ⟨⟨_, rfl⟩, _, rfl, _, L, linesT A (rsOf us), rfl, rfl, .inl (SqL.of eL4), ?_, ?_⟩
      · have := sum_le memL
        have h1 : ((Str.ofString "\n")).length = 1 := by decide +kernel
        rw [h1]
        rw [lenL] at this ⊢
        omega
      · have e8 : (Str.ofString "\n") = chr1 10 := by decide +kernel
        rw [e8]
        exact kR H4 S4
end
end Lk

set_option Elab.async false
set_option linter.all false
set_option maxRecDepth 100000
set_option maxHeartbeats 4000000
namespace Lk
open PySem L2
abbrev s_law_read : Stmt := top 31
abbrev N_law_read : List Str := ["text", "wrong"]
abbrev P_law_read : List Str := ["text"]
theorem sc_law_read : FnScope N_law_read P_law_read (defScope s_law_read) := ⟨rfl, rfl, rfl, by decide +kernel, rfl, by decide +kernel, by decide +kernel⟩
abbrev kRev : List V → List V → List V := fun vs zs => vs ++ zs.reverse
abbrev uRev : List Value → List Value → List Value := fun us ws => us ++ ws.reverse
structure LR (CM : Addr) (vs : List V) (H : Hp) (Q : VK) : Prop where
  ex : ∃ (x : V) (d : PyData), vs = [x] ∧ Dv H x d ∧ (∀ z, d = .str z → z.length ≤ 1000000) ∧ match readD d with
  | some k => ∀ H', Same H H' → Q (.int (k : Int)) H'
  | none => ∀ z A rs H' m us, d = .str z → tellR z = some (A, rs) → Same H H' → H m = none → MachAt CM H' m A us → rsOf us = rs → Q (.ref m) H'
def spLawRead (CM : Addr) : Sp := fun vs H Q _ => LR CM vs H Q
def tbR (CM CT : Addr) (W : WX) : TS := tSeq (tRet (tKw (spRead CM CT) kRev 1 (WE W) (tCons (tVar 0) tNil))) tNext
def tsR (CT : Addr) : Suit := fun a cls d => tSeq (tRet (tByLow CT a cls d (tVar 1))) tNext
section
variable {P : Program} {w : World} {K : PySem.W.Frag} {mg : Str → Option Value} {base : Heap} {CM CT fCT : Addr}
theorem ok_law_read {f fR : Addr} {fd fdR : FuncData} (A0 : Df K mg "_law_read" s_law_read f fd P_law_read) (d_read : Df K mg "read_machine" s_read_machine fR fdR P_read_machine) (k_read : KBn K fdR P_read_machine 0 ["text"] uRev kRev)
    (G_read : FnOk P w K mg base (L2.CX P w) 9 fR fdR P_read_machine (spRead CM CT)) (T : Txt mg) (TT : PySem.ErrX.ErrTxt K mg "InvalidText" "InvalidText.__init__" CT fCT) : FnOk P w K mg base CX0 10 f fd P_law_read (spLawRead CM) := by
  refine A0.F.ok sc_law_read (fun vs H Q E h => ?_) (fun cdv Ar outer s H vs Q E hr h => ?_)
  · obtain ⟨x, d, rfl, _⟩ := h.ex
    rfl
  · obtain ⟨x, d, rfl, D, hz, k⟩ := h.ex
    refine ⟨_, (pss_one (ps_try_as (i := 1) (tb := tbR CM CT) (ts := tsR CT) (Wout := fun _ _ _ _ => False) rfl rfl sc_law_read.nd rfl rfl ⟨rfl, by decide, Or.inl TT.gC⟩ takes0
        (fun W pn xe tk _ => pss_one (ps_ret (by exact (pe_kw (ks := ["text"]) G_read (hr.mono (by decide)) rfl d_read.g d_read.F.kp k_read (fun σ => passAt tk σ) (by exact (pk_cons (pv 0) pk_nil))))))
        (fun a oe cls d pn hz hf => pss_one (ps_ret (by exact (pe_byLow TT hz hf (pv 1))))))), ?_⟩
    refine ⟨_, rfl, rfl, x, d, rfl, D, hz, ?_⟩
    cases e : readD d with
    | some n =>
      rw [e] at k
      exact fun H' q S hq => ⟨true, TT.te, fun _ a ha => ⟨_, rfl, rfl, rfl, q, .int (n : Int), rfl, upd_same, k _ (S.trans (Same.new hq))⟩, fun e => by cases e⟩
    | none =>
      rw [e] at k
      exact k
end
end Lk

set_option Elab.async false
set_option linter.all false
set_option maxRecDepth 100000
set_option maxHeartbeats 4000000
namespace Lk
open PySem L2
abbrev s_law_line : Stmt := top 32
abbrev N_law_line : List Str := ["deal", "commands", "states", "at", "odd", "row"]
abbrev P_law_line : List Str := ["deal", "commands", "states", "at"]
theorem sc_law_line : FnScope N_law_line P_law_line (defScope s_law_line) := ⟨rfl, rfl, rfl, by decide +kernel, rfl, by decide +kernel, by decide +kernel⟩
def odd0 : List Str := ["", "machine", "machine 1", "machine 0 1", "machine 1 0", "machine 01 1", "machine 1 x", "Machine 1 1", "machine  1 1", "machine 1 1 1", "machine 100 1", "1 1", "machine 1 1 "]
theorem odd0_all : (odd0.all fun s => (headR s).isNone && !(s.cps.toList.contains 10) && decide (s.length ≤ 20)) = true := by decide +kernel
theorem odd0_bad {s : Str} (h : s ∈ odd0) : headR s = none ∧ free 10 s ∧ s.length ≤ 20 := by
  have e := List.all_eq_true.mp odd0_all s h
  simp only [Bool.and_eq_true, Option.isNone_iff_eq_none, Bool.not_eq_true', decide_eq_true_eq] at e
  obtain ⟨⟨e1, e2⟩, e3⟩ := e
  refine ⟨e1, fun q => ?_, e3⟩
  rw [List.contains_iff_mem.mpr q] at e2
  cases e2
/-- a line that is none of next states -/
structure BadW (A S : Int) (ws : List Str) : Prop where
  e : entR A S (Txt.join (chr1 32) ws) = none
  w : ∀ x ∈ ws, x.length ≤ 4 ∧ free 10 x
  n : ws.length ≤ 101
structure LAt (H : Hp) (d l : Addr) (A S : Int) (v : V) : Prop where
  ex : ∃ (q : Addr) (ws : List Str), v = .ref q ∧ H q = some (.lst (ws.map V.str)) ∧ ¬ dl d l q ∧ BadW A S ws
theorem LAt.same {H H' : Hp} {d l : Addr} {A S : Int} {v : V} (x : LAt H d l A S v) (s : Same H H') : LAt H' d l A S v := by
  obtain ⟨q, ws, e, h, n, b⟩ := x.ex
  exact ⟨q, ws, e, s _ _ h, n, b⟩
theorem nd_of {H : Hp} {d l q : Addr} (D : DealAt H d l) (h : H q = none) : ¬ dl d l q := by
  obtain ⟨bs, b, D⟩ := D
  intro e
  rcases e with e | e
  · rw [e, D.hd] at h
    cases h
  · rw [e, D.hl] at h
    cases h
section
variable {K : PySem.W.Frag} {σ : St} {H : Hp} {Q : VK} {r : Addr} {row : List Str} {w : Str} {t0 : TE}
theorem cut1 {xs : List V} (h : 1 ≤ xs.length) : cutV xs (some 1) none = xs.drop 1 := by
  have e1 : HT.sIx xs.length xs.length none = xs.length := rfl
  have e2 : HT.sIx xs.length 0 (some 1) = 1 := by
    show (if (1 : Int) < 0 then ((1 : Int) + ((xs.length : Nat) : Int)).toNat else min (1 : Int).toNat xs.length) = 1
    rw [if_neg (by omega)]
    show min 1 xs.length = 1
    omega
  unfold cutV
  rw [e1, e2, List.take_of_length_le (by rw [List.length_drop]; exact Nat.le_refl _)]
theorem ev_cut (hσ : σ[5]? = some (some (.ref r))) (hr : H r = some (.lst (row.map V.str))) (h1 : 1 ≤ row.length)
    (k : ∀ H' q, Same H H' → H q = none → H' q = some (.lst ((row.drop 1).map V.str)) → Q (.ref q) H') : tSl (rSlL K) (tVar 5) (tPart (tC (.int 1))) tNoPart σ H Q := by
  refine ⟨_, hσ, 1, rfl, r, _, rfl, SqL.of hr, fun p hp => ?_⟩
  rw [cut1 (by rw [List.length_map]; exact h1)]
  refine k _ p (Same.new hp) hp ?_
  rw [upd_same, List.map_drop]
theorem ev_plus (hσ : σ[5]? = some (some (.ref r))) (hr : H r = some (.lst (row.map V.str))) (h1 : 1 ≤ row.length) (hl : row.length ≤ 100) (h0 : ∀ (H : Hp) (Q : VK), Q (.str w) H → t0 σ H Q)
    (k : ∀ H' q, Same H H' → H q = none → H' q = some (.lst ((w :: row.drop 1).map V.str)) → Q (.ref q) H') : tOp rCat (tLst (tCons t0 tNil)) (tSl (rSlL K) (tVar 5) (tPart (tC (.int 1))) tNoPart) σ H Q := by
  refine h0 _ _ ⟨by show 1 ≤ sizeLine; decide, fun p hp => ?_⟩
  refine ev_cut hσ (Same.new hp _ _ hr) h1 fun H2 q S2 hq e2 => ?_
  refine ⟨p, q, [.str w], _, rfl, rfl, S2 _ _ upd_same, e2, ?_, fun p3 hp3 => ?_⟩
  · rw [List.length_map, List.length_drop, List.length_singleton]
    exact Nat.le_trans (show 1 + (row.length - 1) ≤ 101 by omega) (by decide)
  · refine k _ p3 (((Same.new hp).trans S2).trans (Same.new hp3)) ?_ upd_same
    cases e : H p3 with
    | none => rfl
    | some o => rw [((Same.new hp).trans S2) _ _ e] at hp3; cases hp3
theorem ev_more (hσ : σ[5]? = some (some (.ref r))) (hr : H r = some (.lst (row.map V.str))) (hl : row.length ≤ 100)
    (k : ∀ H' q, Same H H' → H q = none → H' q = some (.lst ((row ++ [w]).map V.str)) → Q (.ref q) H') : tOp rCat (tVar 5) (tLst (tCons (tC (.str w)) tNil)) σ H Q := by
  refine ⟨_, hσ, by show 1 ≤ sizeLine; decide, fun p hp => ?_⟩
  refine ⟨r, p, _, [.str w], rfl, rfl, Same.new hp _ _ hr, upd_same, ?_, fun p3 hp3 => ?_⟩
  · rw [List.length_map, List.length_singleton]
    exact Nat.le_trans (show row.length + 1 ≤ 101 by omega) (by decide)
  · refine k _ p3 ((Same.new hp).trans (Same.new hp3)) ?_ ?_
    · cases e : H p3 with
      | none => rfl
      | some o => rw [(Same.new hp) _ _ e] at hp3; cases hp3
    · rw [upd_same, List.map_append]
      rfl
end
theorem flat_rep1 {α : Type} (x : α) : ∀ n : Nat, (List.replicate n [x]).flatten = List.replicate n x
  | 0 => rfl
  | n + 1 => by
    rw [List.replicate_succ, List.flatten_cons, flat_rep1 x n, List.replicate_succ]
    rfl
def okW (w : Str) : Prop := free 32 w ∧ free 10 w ∧ w.length ≤ 4
theorem okW_of {w : Str} (h : (!(w.cps.toList.contains 32) && !(w.cps.toList.contains 10) && decide (w.length ≤ 4)) = true) : okW w := by
  simp only [Bool.and_eq_true, Bool.not_eq_true', decide_eq_true_eq] at h
  obtain ⟨⟨h1, h2⟩, h3⟩ := h
  refine ⟨fun q => ?_, fun q => ?_, h3⟩
  · rw [List.contains_iff_mem.mpr q] at h1
    cases h1
  · rw [List.contains_iff_mem.mpr q] at h2
    cases h2
theorem okW_txt {z : Int} (h0 : 0 ≤ z) (h1 : z ≤ 99) : okW (txtN z) := ⟨(txt_free h0 (by omega)).1, (txt_free h0 (by omega)).2, Nat.le_trans (txt_len h0 h1) (by decide)⟩
abbrev zeros (n : Nat) : List Str := List.replicate n ("0" : Str)
theorem okW_0 : okW ("0" : Str) := okW_of (by decide +kernel)
section
variable {A S : Int} {n : Nat} {w : Str}
theorem okW_cons (hw : okW w) (hn : n ≤ 99) : ∀ x ∈ w :: (zeros n).drop 1, okW x := fun x hx => by
  rcases List.mem_cons.mp hx with e | hx
  · rw [e]
    exact hw
  · have := List.mem_of_mem_drop hx
    rw [(List.mem_replicate.mp this).2]
    exact okW_0
theorem bad_first (hn : n ≤ 99) (hw : okW w) (e : numR w = none) : BadW A S (w :: (zeros n).drop 1) := by
  refine ⟨entR_word (fun x hx => (okW_cons hw hn x hx).1) List.mem_cons_self e, fun x hx => ⟨(okW_cons hw hn x hx).2.2, (okW_cons hw hn x hx).2.1⟩, ?_⟩
  rw [List.length_cons, List.length_drop, List.length_replicate]
  omega
theorem bad_big (hn : n ≤ 99) (h0 : 0 ≤ S) (h1 : S ≤ 99) : BadW A S (txtN S :: (zeros n).drop 1) := by
  have hw := okW_txt h0 h1
  refine ⟨entR_big (fun x hx => (okW_cons hw hn x hx).1) (txt_num h0 (by omega)).1 (Int.le_refl _), fun x hx => ⟨(okW_cons hw hn x hx).2.2, (okW_cons hw hn x hx).2.1⟩, ?_⟩
  rw [List.length_cons, List.length_drop, List.length_replicate]
  omega
theorem okW_snoc (hw : okW w) : ∀ x ∈ zeros n ++ [w], okW x := fun x hx => by
  rcases List.mem_append.mp hx with hx | hx
  · rw [(List.mem_replicate.mp hx).2]
    exact okW_0
  · rw [List.mem_singleton.mp hx]
    exact hw
theorem bad_more (hn : n ≤ 99) (hA : A = (n : Int)) (hw : okW w) : BadW A S (zeros n ++ [w]) := by
  refine ⟨entR_many (by simp) (fun x hx => (okW_snoc hw x hx).1) ?_, fun x hx => ⟨(okW_snoc hw x hx).2.2, (okW_snoc hw x hx).2.1⟩, ?_⟩
  · rw [List.length_append, List.length_replicate, List.length_singleton, hA]
    omega
  · rw [List.length_append, List.length_replicate, List.length_singleton]
    omega
theorem bad_less (hn : n ≤ 99) (h1 : 1 ≤ n) (hA : A = (n : Int)) : BadW A S ((zeros n).drop 1) := by
  have ok : ∀ x ∈ (zeros n).drop 1, okW x := fun x hx => by
    rw [(List.mem_replicate.mp (List.mem_of_mem_drop hx)).2]
    exact okW_0
  refine ⟨?_, fun x hx => ⟨(ok x hx).2.2, (ok x hx).2.1⟩, by rw [List.length_drop, List.length_replicate]; omega⟩
  by_cases h : (zeros n).drop 1 = []
  · rw [h]
    have e : allR numR (Txt.split (Txt.join (chr1 32) []) (chr1 32)) = none := by decide +kernel
    unfold entR
    rw [e]
    rfl
  · refine entR_many h (fun x hx => (ok x hx).1) ?_
    rw [List.length_drop, List.length_replicate, hA]
    omega
end
def Ev (H1 : Hp) (σ : St) (d l : Addr) (A S : Int) (t : TE) : Prop := ∀ (H : Hp) (Q : VK), Same H1 H → (∀ H' v, Same H H' → LAt H' d l A S v → Q v H') → t σ H Q
theorem ev_all {H1 : Hp} {σ : St} {d l : Addr} {A S : Int} : ∀ {ts : List TE} {H : Hp} {k : List V → Hp → Prop}, (∀ t ∈ ts, Ev H1 σ d l A S t) → Same H1 H → (∀ H' vs, Same H H' → vs.length = ts.length → (∀ v ∈ vs, LAt H' d l A S v) → k vs H') → (ts.foldr tCons tNil) σ H k
  | [], H, k, _, _, h => h H [] (Same.refl _) rfl fun _ q => by cases q
  | t :: ts, H, k, ht, S0, h => ht t List.mem_cons_self H _ S0 fun H' v S' b => ev_all (ts := ts) (fun t q => ht t (List.mem_cons_of_mem _ q)) (S0.trans S') fun H2 vs S2 hn hv => h H2 (v :: vs) (S'.trans S2) (by rw [List.length_cons, List.length_cons, hn]) fun u hu => by
      rcases List.mem_cons.mp hu with e | hu
      · rw [e]
        exact b.same S2
      · exact hv u hu
theorem ev_lst {H1 : Hp} {σ : St} {d l : Addr} {A S : Int} {t : TA} {ts : List TE} {H : Hp} {Q : VK} (et : t = ts.foldr tCons tNil) (hn : ts.length ≤ 100) (S0 : Same H1 H) (h : ∀ t ∈ ts, Ev H1 σ d l A S t)
    (k : ∀ H' q vs, Same H H' → H' q = some (.lst vs) → vs.length = ts.length → (∀ v ∈ vs, LAt H' d l A S v) → Q (.ref q) H') : tLst t σ H Q := by
  subst et
  refine ev_all h S0 fun H' vs S' en hv => ⟨?_, fun p hp => k _ p vs (S'.trans (Same.new hp)) upd_same en fun v q => (hv v q).same (Same.new hp)⟩
  rw [en]
  exact Nat.le_trans hn (by decide)
theorem nd_same {H H1 : Hp} {d l q : Addr} (D : DealAt H1 d l) (S : Same H1 H) (h : H q = none) : ¬ dl d l q := nd_of D (by
  cases e : H1 q with
  | none => rfl
  | some o => rw [S _ _ e] at h; cases h)
theorem allc {α : Type} {P : α → Prop} {t : α} {ts : List α} (a : P t) (b : ∀ x ∈ ts, P x) : ∀ x ∈ t :: ts, P x := fun x hx => by
  rcases List.mem_cons.mp hx with e | hx
  · rw [e]
    exact a
  · exact b x hx
theorem alln {α : Type} {P : α → Prop} : ∀ x ∈ ([] : List α), P x := fun x hx => by cases hx
section
variable {K : PySem.W.Frag} {H1 : Hp} {σ : St} {d l r : Addr} {A S : Int} {n : Nat} {w : Str} {t0 : TE}
theorem Ev_plus (hσ : σ[5]? = some (some (.ref r))) (er : H1 r = some (.lst ((zeros n).map V.str))) (D1 : DealAt H1 d l) (n1 : 1 ≤ n) (n9 : n ≤ 99) (h0 : ∀ (H : Hp) (Q : VK), Q (.str w) H → t0 σ H Q) (b : BadW A S (w :: (zeros n).drop 1)) :
    Ev H1 σ d l A S (tOp rCat (tLst (tCons t0 tNil)) (tSl (rSlL K) (tVar 5) (tPart (tC (.int 1))) tNoPart)) := fun H Q S0 k =>
  ev_plus hσ (S0 _ _ er) (by rw [List.length_replicate]; exact n1) (by rw [List.length_replicate]; omega) h0 fun H' q S' hq e => k H' _ S' ⟨q, _, rfl, e, nd_same D1 S0 hq, b⟩
theorem Ev_cut (hσ : σ[5]? = some (some (.ref r))) (er : H1 r = some (.lst ((zeros n).map V.str))) (D1 : DealAt H1 d l) (n1 : 1 ≤ n) (n9 : n ≤ 99) (b : BadW A S ((zeros n).drop 1)) :
    Ev H1 σ d l A S (tSl (rSlL K) (tVar 5) (tPart (tC (.int 1))) tNoPart) := fun H Q S0 k =>
  ev_cut hσ (S0 _ _ er) (by rw [List.length_replicate]; exact n1) fun H' q S' hq e => k H' _ S' ⟨q, _, rfl, e, nd_same D1 S0 hq, b⟩
theorem Ev_more (hσ : σ[5]? = some (some (.ref r))) (er : H1 r = some (.lst ((zeros n).map V.str))) (D1 : DealAt H1 d l) (n1 : 1 ≤ n) (n9 : n ≤ 99) (b : BadW A S (zeros n ++ [w])) :
    Ev H1 σ d l A S (tOp rCat (tVar 5) (tLst (tCons (tC (.str w)) tNil))) := fun H Q S0 k =>
  ev_more hσ (S0 _ _ er) (by rw [List.length_replicate]; omega) fun H' q S' hq e => k H' _ S' ⟨q, _, rfl, e, nd_same D1 S0 hq, b⟩
end
def badL (A S at_ : Int) (z : Str) : Prop := (at_ = 0 → headR z = none) ∧ (at_ ≠ 0 → entR A S z = none)
def spLine : Sp := fun vs H Q _ => ∃ (d l : Addr) (A S at_ : Int), vs = [.ref d, .int A, .int S, .int at_] ∧ DealAt H d l ∧ (1 ≤ A ∧ A ≤ 99) ∧ (1 ≤ S ∧ S ≤ 99) ∧
  ∀ H' z, DealAt H' d l → SB d l H H' → badL A S at_ z → free 10 z → z.length ≤ 1000 → Q (.str z) H'
section
variable {P : Program} {w : World} {K : PySem.W.Frag} {mg : Str → Option Value} {base : Heap}
theorem ok_line {f fo : Addr} {fd fdo : FuncData} (A0 : Df K mg "_law_line" s_law_line f fd P_law_line) (d_law_of : Df K mg "_law_of" s_law_of fo fdo P_law_of) (G_law_of : FnOk P w K mg base CX0 2 fo fdo P_law_of spOf) (T : Txt mg) (mS : mg "str" = none) : FnOk P w K mg base CX0 3 f fd P_law_line spLine := by
  refine A0.F.ok sc_law_line (fun vs H Q E h => ?_) (fun cdv Ar outer s H vs Q E hr h => ?_)
  · obtain ⟨d, l, A, S, a, rfl, _⟩ := h
    rfl
  · obtain ⟨d, l, A, S, a, rfl, D, ⟨A0, A9⟩, ⟨S0, S9⟩, k⟩ := h
    refine ⟨_, (pss_cons (ps_if (pt_cmpR op_eq (pv 3) pe_int (nomark _)) (pss_cons (ps_set (i := 4) sc_law_line.nd rfl (Or.inl rfl) (pe_lst (pa_cons pe_str (pa_cons pe_str (pa_cons pe_str (pa_cons pe_str (pa_cons pe_str (pa_cons pe_str (pa_cons pe_str (pa_cons pe_str (pa_cons pe_str pa_nil)))))))))))
      (pss_one (ps_ret (pe_call G_law_of (hr.mono (by decide)) rfl d_law_of.g d_law_of.F.kp d_law_of.b .nil pass0 (pa_cons (pv 0) (pa_cons (pe_op op_cat (pv 4) (pe_lst (pa_cons pe_str (pa_cons pe_str (pa_cons pe_str (pa_cons pe_str pa_nil)))))) pa_nil)))))) pss_nil)
    (pss_cons (ps_set (i := 5) sc_law_line.nd rfl (Or.inl rfl) (pe_op op_rep (pe_lst (pa_cons pe_str pa_nil)) (pv 1)))
    (pss_cons (ps_set (i := 4) sc_law_line.nd rfl (Or.inl rfl) (pe_lst (pa_cons (pe_op op_cat (pv 5) (pe_lst (pa_cons pe_str pa_nil))) (pa_cons (pe_slice sl_list (pv 5) (po_some pe_int) po_none) (pa_cons (pe_op op_cat (pe_lst (pa_cons pe_str pa_nil)) (pe_slice sl_list (pv 5) (po_some pe_int) po_none)) (pa_cons (pe_op op_cat (pe_lst (pa_cons pe_str pa_nil)) (pe_slice sl_list (pv 5) (po_some pe_int) po_none)) (pa_cons (pe_op op_cat (pe_lst (pa_cons pe_str pa_nil)) (pe_slice sl_list (pv 5) (po_some pe_int) po_none)) (pa_cons (pe_op op_cat (pe_lst (pa_cons pe_str pa_nil)) (pe_slice sl_list (pv 5) (po_some pe_int) po_none)) (pa_cons (pe_op op_cat (pe_lst (pa_cons (pe_callTy call_str_int (by rfl) mS (by decide +kernel) (pa_cons (pv 2) pa_nil)) pa_nil)) (pe_slice sl_list (pv 5) (po_some pe_int) po_none)) pa_nil)))))))))
    (pss_one (ps_ret (pe_join pe_str (pe_call G_law_of (hr.mono (by decide)) rfl d_law_of.g d_law_of.F.kp d_law_of.b .nil pass0 (pa_cons (pv 0) (pa_cons (pe_op op_cat (pv 4) (pe_lst (pa_cons (pe_op op_cat (pv 5) (pe_lst (pa_cons pe_str pa_nil))) (pa_cons (pe_op op_cat (pe_lst (pa_cons pe_str pa_nil)) (pe_slice sl_list (pv 5) (po_some pe_int) po_none)) pa_nil)))) pa_nil))))))))), ?_⟩
    refine ⟨_, rfl, rfl, _, rfl, ?_⟩
    rw [dec_intI]
    by_cases ha : a = 0
    · rw [decide_eq_true ha]
      refine iteT ?_
      refine ⟨by show 9 ≤ sizeLine; decide, fun p hp => ?_⟩
      refine ⟨_, rfl, _, rfl, by show 4 ≤ sizeLine; decide, fun p2 hp2 => ⟨p, p2, _, _, rfl, rfl, (Same.new hp2) _ _ upd_same, upd_same, by show 13 ≤ sizeLine; decide, fun p3 hp3 => ?_⟩⟩
      refine ⟨d, l, p3, _, rfl, upd_same, nd_of ((D.new hp).new hp2) hp3, by show 0 < 13; decide, by show 13 ≤ 1000; decide, ((D.new hp).new hp2).new hp3, fun H' i v D' S' hv => ?_⟩
      have hm := List.mem_of_getElem? hv
      obtain ⟨s, hs, rfl⟩ : ∃ s, s ∈ odd0 ∧ v = .str s := by
        have e : v ∈ odd0.map V.str := hm
        obtain ⟨s, h1, h2⟩ := List.mem_map.mp e
        exact ⟨s, h1, h2.symm⟩
      obtain ⟨b1, b2, b3⟩ := odd0_bad hs
      exact k H' s D' ((((SB.new hp).trans (SB.new hp2)).trans (SB.new hp3)).trans S') ⟨fun _ => b1, fun e => absurd ha e⟩ b2 (by omega)
    · rw [decide_eq_false ha]
      refine iteF ?_
      obtain ⟨n, rfl⟩ : ∃ n : Nat, A = (n : Int) := ⟨A.toNat, by omega⟩
      refine ⟨by show 1 ≤ sizeLine; decide, fun p hp => ⟨_, rfl, p, (n : Int), [.str "0"], rfl, rfl, upd_same, by omega, by omega, ?_, fun r hr => ?_⟩⟩
      · show 1 * n ≤ sizeLine
        rw [show sizeLine = 16777216 from rfl]
        omega
      have eF : (List.replicate ((n : Int)).toNat [V.str "0"]).flatten = (zeros n).map V.str := by
        rw [Int.toNat_natCast, flat_rep1, List.map_replicate]
      rw [eF]
      have D1 := (D.new hp (o := .lst [.str "0"])).new hr (o := .lst ((zeros n).map V.str))
      have B1 := (SB.new (d := d) (l := l) hp (o := .lst [.str "0"])).trans (SB.new hr (o := .lst ((zeros n).map V.str)))
      have er : upd (upd H p (.lst [.str "0"])) r (.lst ((zeros n).map V.str)) r = some (.lst ((zeros n).map V.str)) := upd_same
      generalize upd (upd H p (.lst [.str "0"])) r (.lst ((zeros n).map V.str)) = H1 at *
      have n9 : n ≤ 99 := by omega
      have n1 : 1 ≤ n := by omega
      have zl : (zeros n).length ≤ 100 := by rw [List.length_replicate]; omega
      have z1 : 1 ≤ (zeros n).length := by rw [List.length_replicate]; omega
      refine joinName (by with_reducible rfl) (fun v H2 => ∃ q vs, v = .ref q ∧ Same H1 H2 ∧ H2 q = some (.lst vs) ∧ vs.length = 7 ∧ ∀ v ∈ vs, LAt H2 d l (n : Int) S v) (fun Q' kQ => ?_) ?_
      · refine ev_lst (H1 := H1) (d := d) (l := l) (A := (n : Int)) (S := S) (ts := [_, _, _, _, _, _, _]) rfl (by show 7 ≤ 100; decide) (Same.refl _) ?_ (fun H2 q vs S2 e en hv => kQ _ _ ⟨q, vs, rfl, S2, e, en, hv⟩)
        refine allc (Ev_more rfl er D1 n1 n9 (bad_more n9 rfl okW_0)) (allc (Ev_cut rfl er D1 n1 n9 (bad_less n9 n1 rfl)) (allc (Ev_plus rfl er D1 n1 n9 (fun _ _ h => h) (bad_first n9 (okW_of (by decide +kernel)) (by decide +kernel)))
          (allc (Ev_plus rfl er D1 n1 n9 (fun _ _ h => h) (bad_first n9 (okW_of (by decide +kernel)) (by decide +kernel))) (allc (Ev_plus rfl er D1 n1 n9 (fun _ _ h => h) (bad_first n9 (okW_of (by decide +kernel)) (by decide +kernel)))
          (allc (Ev_plus rfl er D1 n1 n9 (fun _ _ h => h) (bad_first n9 (okW_of (by decide +kernel)) (by decide +kernel))) (allc (Ev_plus rfl er D1 n1 n9 (fun _ _ h => ⟨_, rfl, S, rfl, log_small (by omega) S9, h⟩) (bad_big n9 (by omega) S9)) alln))))))
      · rintro v H2 ⟨q, vs, rfl, S2, e2, en, hv⟩
        refine ⟨⟨_, rfl⟩, _, rfl, _, rfl, ?_⟩
        refine ev_lst (H1 := H1) (d := d) (l := l) (A := (n : Int)) (S := S) (ts := [_, _]) rfl (by show 2 ≤ 100; decide) S2 ?_ (fun H3 q3 vs3 S3 e3 en3 hv3 => ?_)
        · exact allc (Ev_more rfl er D1 n1 n9 (bad_more n9 rfl (okW_of (by decide +kernel)))) (allc (Ev_plus rfl er D1 n1 n9 (fun _ _ h => h) (bad_first n9 (okW_of (by decide +kernel)) (by decide +kernel))) alln)
        · have S13 := S2.trans S3
          have D3 := D1.same S13
          have en3 : vs3.length = 2 := en3
          refine ⟨q, q3, vs, vs3, rfl, rfl, S3 _ _ e2, e3, by rw [en, en3]; decide, fun p4 hp4 => ?_⟩
          refine ⟨d, l, p4, vs ++ vs3, rfl, upd_same, nd_of D3 hp4, by rw [List.length_append, en]; omega, by rw [List.length_append, en, en3]; decide, D3.new hp4, fun H5 i v D5 S5 hi => ?_⟩
          have hb : LAt H3 d l (n : Int) S v := by
            rcases List.mem_append.mp (List.mem_of_getElem? hi) with h | h
            · exact (hv v h).same S3
            · exact hv3 v h
          obtain ⟨x, ws, rfl, ex, nx, b⟩ := hb.ex
          have ex5 := S5.kp.get nx (Same.new (o := .lst (vs ++ vs3)) hp4 _ _ ex)
          have e8 : (Str.ofString " ") = chr1 32 := by decide +kernel
          refine ⟨_, x, ws, rfl, rfl, .inl (SqL.of ex5), ?_, ?_⟩
          · have := sum_le (xs := ws) (n := 4) fun y hy => (b.w y hy).1
            have := b.n
            rw [e8]
            show _ + ws.length * 1 ≤ _
            omega
          · rw [e8]
            refine k H5 _ D5 (((B1.trans (KP.same S13).sb).trans (SB.new hp4)).trans S5) ⟨fun e => absurd e ha, fun _ => b.e⟩ (free_join (by decide) fun y hy => (b.w y hy).2) ?_
            have := joinT_len_le 32 (n := 4) (xs := ws) fun y hy => (b.w y hy).1
            have := b.n
            omega
end
end Lk

set_option Elab.async false
set_option linter.all false
set_option maxRecDepth 100000
set_option maxHeartbeats 4000000
namespace Lk
open PySem L2
section
variable {A : Nat} {rs : List (List Int)}
/-- rows of a machine that a text can hold -/
structure Rt9 (A : Nat) (rs : List (List Int)) : Prop where
  A0 : 1 ≤ A
  A9 : A ≤ 99
  R : Rs A rs
  n : rs.length ≤ 99
theorem Rt9.z (x : Rt9 A rs) : ∀ r ∈ rs, ∀ z ∈ r, 0 ≤ z ∧ z ≤ 99 := fun r hr z hz => by
  have := (x.R.row r hr).2 z hz
  have := x.n
  omega
theorem Rt9.ent (x : Rt9 A rs) : ∀ r ∈ rs, entR (A : Int) (rs.length : Int) (rowT r) = some r := fun r hr => by
  have l := (x.R.row r hr).1
  have := x.A0
  refine entR_ok (fun e => by rw [e] at l; simp at l; omega) (by omega) (x.R.row r hr).2 (by have := x.n; omega)
theorem Rt9.head (x : Rt9 A rs) : headR (headT (A : Int) (rs.length : Int)) = some ((A : Int), (rs.length : Int)) := by
  have := x.A0
  have := x.A9
  have := x.n
  have := x.R.pos
  exact headR_ok (by omega) (by omega) (by omega) (by omega)
theorem Rt9.free (x : Rt9 A rs) : ∀ l ∈ linesT (A : Int) rs, free 10 l := fun l hl => by
  have := x.A9
  have := x.n
  rcases List.mem_cons.mp hl with e | hl
  · rw [e]
    refine free_join (by decide) fun w hw => ?_
    rcases List.mem_cons.mp hw with e | hw
    · rw [e]
      show (10 : Nat) ∉ _
      decide +kernel
    rcases List.mem_cons.mp hw with e | hw
    · rw [e]
      exact (txt_free (by omega) (by omega)).2
    · rw [List.mem_singleton.mp hw]
      exact (txt_free (by omega) (by omega)).2
  · obtain ⟨r, hr, rfl⟩ := List.mem_map.mp hl
    refine free_join (by decide) fun w hw => ?_
    obtain ⟨z, hz, rfl⟩ := List.mem_map.mp hw
    have := x.z r hr z hz
    exact (txt_free (by omega) (by omega)).2
theorem Rt9.all (x : Rt9 A rs) : allR (entR (A : Int) (rs.length : Int)) (rs.map rowT) = some rs := allR_map x.ent
theorem lines_cons (x : Rt9 A rs) (r : List Str) : linesR (headT (A : Int) (rs.length : Int) :: r) = goR (A : Int) (rs.length : Int) rs.length r 1 := by
  show (match headR (headT (A : Int) (rs.length : Int)) with
    | none => some 0
    | some (A, S) => goR A S S.toNat r 1) = _
  rw [x.head]
  show goR (A : Int) (rs.length : Int) ((rs.length : Int)).toNat r 1 = _
  rw [Int.toNat_natCast]
theorem read_ok (x : Rt9 A rs) : readR (Txt.join (chr1 10) (linesT (A : Int) rs)) = none ∧ tellR (Txt.join (chr1 10) (linesT (A : Int) rs)) = some ((A : Int), rs) := by
  constructor
  · rw [readR_lines (by unfold linesT; simp) x.free]
    unfold linesT
    rw [lines_cons x]
    have := goR_ok (A := (A : Int)) (S := (rs.length : Int)) (ls := rs.map rowT) (at_ := 1) (allR_isNone x.all)
    rw [List.length_map] at this
    exact this
  · have e := split_join (c := 10) (xs := linesT (A : Int) rs) (by unfold linesT; simp) x.free
    rw [tellR_split (l := headT (A : Int) (rs.length : Int)) (r := rs.map rowT) e, x.head]
    show (match allR (entR (A : Int) (rs.length : Int)) (rs.map rowT) with
      | none => none
      | some rs => some ((A : Int), rs)) = _
    rw [x.all]
/-- a line spoilt -/
theorem read_bad (x : Rt9 A rs) {z : Str} {k : Nat} {post : List Str} (hk : k ≤ rs.length) (b : badL (A : Int) (rs.length : Int) (k : Int) z) (hz : free 10 z) (hp : ∀ l ∈ post, free 10 l) :
    readR (Txt.join (chr1 10) ((linesT (A : Int) rs).take k ++ z :: post)) = some k := by
  rw [readR_lines (by simp) (fun l hl => by
    rcases List.mem_append.mp hl with h | h
    · exact x.free l (List.mem_of_mem_take h)
    · rcases List.mem_cons.mp h with h | h
      · rw [h]
        exact hz
      · exact hp l h)]
  cases k with
  | zero =>
    show linesR (z :: post) = _
    show (match headR z with
      | none => some 0
      | some (A, S) => goR A S S.toNat post 1) = _
    rw [b.1 rfl]
  | succ i =>
    show linesR (headT (A : Int) (rs.length : Int) :: ((rs.map rowT).take i ++ z :: post)) = _
    rw [lines_cons x]
    have hl : ((rs.map rowT).take i).length = i := by
      rw [List.length_take, List.length_map]
      omega
    have := goR_bad (A := (A : Int)) (S := (rs.length : Int)) (ls := (rs.map rowT).take i) (k := rs.length) (at_ := 1) (post := post) (b.2 (by omega)) (fun l h => allR_isNone x.all l (List.mem_of_mem_take h)) (by omega)
    rw [this, hl]
    congr 1
    omega
/-- the last line is missing -/
theorem read_less (x : Rt9 A rs) : readR (Txt.join (chr1 10) ((linesT (A : Int) rs).dropLast)) = some rs.length := by
  have hp := x.R.pos
  have hne : rs.map rowT ≠ [] := fun e => by
    have := congrArg List.length e
    rw [List.length_map] at this
    simp at this
    rw [this] at hp
    simp at hp
  have e0 : (linesT (A : Int) rs).dropLast = headT (A : Int) (rs.length : Int) :: (rs.map rowT).dropLast := by
    unfold linesT
    rw [List.dropLast_cons_of_ne_nil hne]
  rw [readR_lines (by rw [e0]; simp) (fun l hl => x.free l ((List.dropLast_sublist _).subset hl)), e0, lines_cons x]
  have hl : ((rs.map rowT).dropLast).length = rs.length - 1 := by
    rw [List.length_dropLast, List.length_map]
  have := goR_miss (A := (A : Int)) (S := (rs.length : Int)) (ls := (rs.map rowT).dropLast) (k := rs.length) (at_ := 1) (fun l h => allR_isNone x.all l ((List.dropLast_sublist _).subset h)) (by omega)
  rw [this, hl]
  congr 1
  omega
/-- a line more -/
theorem read_more (x : Rt9 A rs) {y : Str} (hy : free 10 y) : readR (Txt.join (chr1 10) (linesT (A : Int) rs ++ [y])) = some (rs.length + 1) := by
  rw [readR_lines (by simp) (fun l hl => by
    rcases List.mem_append.mp hl with h | h
    · exact x.free l h
    · rw [List.mem_singleton.mp h]
      exact hy)]
  show linesR (headT (A : Int) (rs.length : Int) :: (rs.map rowT ++ [y])) = _
  rw [lines_cons x]
  have := goR_more (A := (A : Int)) (S := (rs.length : Int)) (ls := rs.map rowT) (x := y) (post := []) (at_ := 1) (allR_isNone x.all)
  rw [List.length_map] at this
  rw [this]
  congr 1
  omega
end
theorem join_snoc {c : Nat} {y : Str} : ∀ {xs : List Str}, xs ≠ [] → Txt.join (chr1 c) (xs ++ [y]) = (Txt.join (chr1 c) xs ++ chr1 c) ++ y := by
  intro xs h
  have ej : ∀ zs, Txt.join (chr1 c) zs = Str.join (chr1 c) zs := fun zs => StrLaws.glued_eq_join _ _
  rw [ej, ej]
  apply str_eq
  simp only [Str.cps_append, Array.toList_append]
  induction xs with
  | nil => exact absurd rfl h
  | cons x r ih =>
    cases r with
    | nil =>
      show (Str.join (chr1 c) [x, y]).cps.toList = _
      rw [join_two]
      show x.cps.toList ++ c :: y.cps.toList = (x.cps.toList ++ [c]) ++ y.cps.toList
      simp only [List.append_assoc, List.singleton_append]
    | cons u v =>
      have := ih (by simp)
      rw [List.cons_append, List.cons_append, join_two, join_two]
      rw [List.cons_append] at this
      rw [this]
      simp only [List.append_assoc, List.cons_append]
end Lk

set_option Elab.async false
set_option linter.all false
set_option maxRecDepth 100000
set_option maxHeartbeats 8000000
namespace Lk
open PySem L2
abbrev s_law : Stmt := top 33
abbrev N_law : List Str := ["script", "deal", "commands", "steps", "machine", "states", "lines", "row", "to", "text", "at", "spoilt", "wide", "state", "told"]
abbrev P_law : List Str := ["script"]
theorem sc_law : FnScope N_law P_law (defScope s_law) := ⟨rfl, rfl, rfl, by decide +kernel, rfl, by decide +kernel, by decide +kernel⟩
theorem norm {f : St → Hp → Prop} {σ σ' : St} {H : Hp} (e : σ = σ') (h : f σ' H) : f σ H := by
  rw [e]
  exact h
theorem normG {g : TG} {u : V} {σ σ' : St} {H : Hp} {f : St → Hp → Prop} (e : σ = σ') (h : g u σ' H f) : g u σ H f := by
  rw [e]
  exact h
theorem tNext_go {D : Ends} {σ : St} {H : Hp} (h : D.nx σ H) : tNext D σ H := h
theorem cut_last {xs : List V} : cutV xs none (some (-1)) = xs.dropLast := by
  have e1 : HT.sIx xs.length 0 none = 0 := rfl
  have e2 : HT.sIx xs.length xs.length (some (-1)) = xs.length - 1 := by
    show (if (-1 : Int) < 0 then ((-1 : Int) + ((xs.length : Nat) : Int)).toNat else min (-1 : Int).toNat xs.length) = _
    rw [if_pos (by decide)]
    omega
  unfold cutV
  rw [e1, e2, List.drop_zero, Nat.sub_zero, List.dropLast_eq_take]
theorem head_eq2 (A S : Int) : (((("machine " : Str) ++ txtN A) ++ (" " : Str)) ++ txtN S) = headT A S := by
  rw [← head_eq]
  have e : Str.empty ++ ("machine " : Str) = ("machine " : Str) := by decide +kernel
  rw [e]
structure Bd (CM : Addr) (H : Hp) (d l m L : Addr) (A : Int) (us : List (Addr × List Int)) (ls : List Str) : Prop where
  D : DealAt H d l
  M : MachAt CM H m A us
  ln : H L = some (.lst (ls.map V.str))
  nL : ¬ dl d l L
theorem Bd.go {CM : Addr} {H H' : Hp} {d l m L : Addr} {A : Int} {us : List (Addr × List Int)} {ls : List Str} (x : Bd CM H d l m L A us ls) (D' : DealAt H' d l) (S : SB d l H H') : Bd CM H' d l m L A us ls :=
  ⟨D', x.M.nl (NL.of_sb S x.D), S.kp.get x.nL x.ln, x.nL⟩
theorem Bd.same {CM : Addr} {H H' : Hp} {d l m L : Addr} {A : Int} {us : List (Addr × List Int)} {ls : List Str} (x : Bd CM H d l m L A us ls) (S : Same H H') : Bd CM H' d l m L A us ls :=
  ⟨x.D.same S, x.M.same S, S _ _ x.ln, x.nL⟩
theorem lawRead_ok {CM : Addr} {T : Str} {H : Hp} {Q : VK} {E : XK} {A : Int} {rs : List (List Int)} (hT : T.length ≤ 1000000) (h1 : readR T = none) (h2 : tellR T = some (A, rs)) (k : ∀ H' m us, Same H H' → H m = none → MachAt CM H' m A us → rsOf us = rs → Q (.ref m) H') : spLawRead CM [.str T] H Q E := by
  refine ⟨⟨_, .str T, rfl, .str T, fun z e => by cases e; exact hT, ?_⟩⟩
  have e : readD (.str T) = none := h1
  rw [e]
  intro z A' rs' H' m us ez et S' hm M eu
  cases ez
  rw [h2] at et
  cases et
  exact k H' m us S' hm M eu
theorem lawRead_bad {CM : Addr} {T : Str} {H : Hp} {Q : VK} {E : XK} {n : Nat} (hT : T.length ≤ 1000000) (h : readR T = some n) (k : ∀ H', Same H H' → Q (.int (n : Int)) H') : spLawRead CM [.str T] H Q E := by
  refine ⟨⟨_, .str T, rfl, .str T, fun z e => by cases e; exact hT, ?_⟩⟩
  have e : readD (.str T) = some n := h
  rw [e]
  exact k
theorem lawRead_not {CM : Addr} {x : V} {d : PyData} {H : Hp} {Q : VK} {E : XK} (D : Dv H x d) (h : isStrD d = false) (k : ∀ H', Same H H' → Q (.int 0) H') : spLawRead CM [x] H Q E := by
  refine ⟨⟨_, d, rfl, D, fun (z : Str) (e : d = .str z) => (by rw [e] at h; cases h), ?_⟩⟩
  have e : readD d = some 0 := by
    cases d with
    | str z => cases h
    | _ => rfl
  rw [e]
  exact k
theorem szJ {X : List Str} (n : X.length ≤ 12) (h : ∀ x ∈ X, x.length ≤ 1000) : (X.map (·.length)).sum + X.length * (Str.ofString "\n").length ≤ 16777216 ∧ (Txt.join (chr1 10) X).length ≤ 1000000 := by
  have := sum_le h
  have := joinT_len_le 10 h
  have cn : ((Str.ofString "\n")).length = 1 := by decide +kernel
  rw [cn]
  have : X.length * 1000 ≤ 12 * 1000 := Nat.mul_le_mul_right _ n
  have : X.length * (1000 + 1) ≤ 12 * (1000 + 1) := Nat.mul_le_mul_right _ n
  omega
def w10 (A : Nat) (i : Int) : List Int := (List.range A).map fun (k : Nat) => (i + 1 + (0 + (k : Int))) % 10
theorem lc_wrow {σ : St} {A : Nat} {i : Int} {H1 : Hp} {D : Addr} {Qd : Hp → Prop} (hl : σ.length = 15) (h13 : σ[13]? = some (some (.int i))) (hA : A ≤ 99) (hD : H1 D = none) (hd : ∀ H', Same H1 H' → H' D = some (.lst ((w10 A i).map V.int)) → Qd H') :
    ∃ W : Nat → Nat → Hp → Prop, (∃ m, W 0 m (upd H1 D (.lst []))) ∧ ∀ j m H, W j m H →
      ((Itr 0 ((A : Int)).toNat).stop j H ∧ Qd H) ∨ ((Itr 0 ((A : Int)).toNat).go j H ∧ ∃ Nx : Hp → Prop, (∀ H', Nx H' → ∃ m', m' < m ∧ W (j + 1) m' H') ∧ ∀ x H', (Itr 0 ((A : Int)).toNat).yld j H x H' → gName 10 x (wipe σ [10]) H' fun σ2 H2 => wipe σ2 [10] = wipe σ [10] ∧ tYes σ2 H2 fun b H3 =>
        if b = true then (tOp (rI (fun _ j => 0 < j) fun i j => .int (i % j)) (tCB (fun xs H Q => (∃ i, xs = [.int i] ∧ Q (.int i) H) ∨ ∃ k, xs = [.bl k] ∧ Q (.int (if k then 1 else 0)) H) (tCons (tOp (rI0 fun i j => .int (i + j)) (tOp (rI0 fun i j => .int (i + j)) (tVar 13) (tC (.int 1))) (tVar 10)) tNil)) (tC (.int 10))) σ2 H3 fun y H4 => ∃ acc, H4 D = some (.lst acc) ∧ acc.length < sizeLine ∧ Nx (upd H4 D (.lst (acc ++ [y]))) else Nx H3) := by
  refine lc_it walk_range (fun j H => Same H1 H ∧ H D = some (.lst (((w10 A i).take j).map V.int))) ⟨Same.new hD, upd_same⟩ (fun _ _ _ _ => trivial) ?_ (fun H p => hd H p.1 (by
    have e := p.2
    rw [List.take_of_length_le (by unfold w10; rw [List.length_map, List.length_range, Int.toNat_natCast]; exact Nat.le_refl _)] at e
    exact e))
  rintro j x H' H hj ⟨p1, p2⟩ ⟨rfl, rfl⟩
  have hj' : j < A := by simpa using hj
  refine ⟨wipe1 _ _ _, ?_⟩
  refine tYes_go ?_
  simp only [↓reduceIte]
  have g13 : (List.set (wipe σ [10]) 10 (some (V.int (0 + (j : Int)))))[13]? = some (some (.int i)) := by
    rw [List.getElem?_set_ne (by decide)]
    show (σ.set 10 none)[13]? = _
    rw [List.getElem?_set_ne (by decide)]
    exact h13
  have g10 : (List.set (wipe σ [10]) 10 (some (V.int (0 + (j : Int)))))[10]? = some (some (.int (0 + (j : Int)))) := List.getElem?_set_self (by rw [wipe_length, hl]; decide)
  refine ⟨_, g13, _, _, rfl, rfl, _, g10, _, _, rfl, rfl, .inl ⟨_, rfl, _, _, rfl, rfl, by show (0 : Int) < 10; decide, _, p2, ?_, ((KP.same (S := fun _ => False) p1).mut hD).toSame, ?_⟩⟩
  · rw [List.length_map, List.length_take]
    unfold w10
    rw [List.length_map, List.length_range]
    exact Nat.lt_of_le_of_lt (Nat.le_trans (Nat.min_le_right _ _) hA) (by decide)
  · have hx : (w10 A i)[j]? = some ((i + 1 + (0 + (j : Int))) % 10) := by
      unfold w10
      rw [List.getElem?_map, List.getElem?_range hj']
      rfl
    rw [upd_same, take_next hx, List.map_append]
    rfl
theorem rsW {A : Nat} (h1 : 1 ≤ A) : Rs A ((List.range 10).map fun (i : Nat) => w10 A (0 + (i : Int))) := by
  refine ⟨by simp, fun r hr => ?_⟩
  obtain ⟨i, hi, rfl⟩ := List.mem_map.mp hr
  refine ⟨by unfold w10; rw [List.length_map, List.length_range], fun z hz => ?_⟩
  unfold w10 at hz
  obtain ⟨k, hk, rfl⟩ := List.mem_map.mp hz
  rw [List.length_map, List.length_range]
  omega
theorem head10 (A : Int) : headT A 10 = (("machine " : Str) ++ Str.ofString (toString A)) ++ (" 10" : Str) := by
  rw [← head_eq2]
  unfold txtN
  apply str_eq
  simp only [Str.cps_append, Array.toList_append, List.append_assoc]
  have e : (" " : Str).cps.toList ++ (Str.ofString (toString (10 : Int))).cps.toList = (" 10" : Str).cps.toList := by decide +kernel
  rw [e]
theorem okIn : BlkOk N_law { kind := .function, names := [(".0", .local), ("state", .cell), ("range", .globalImplicit), ("commands", .cell)], isGenerator := false, isCoroutine := false } { kind := .function, names := [(".0", .local), ("at", .local), ("int", .globalImplicit), ("state", .free)], isGenerator := false, isCoroutine := false } [("at", 10)] := blkOk_by (by decide +kernel)
theorem out0 {X : Cx} {E : XK} : ∀ σ, PassesAt CX0 X σ ((fun _ => E) σ) := fun _ _ _ _ _ _ _ h => h.elim
def spLaw (K : PySem.W.Frag) : Sp := fun vs H Q _ => ∃ (a : Addr) (ns : List Int), vs = [.ref a] ∧ SqL K H a (ns.map V.int) ∧ ns.length ≤ 63 ∧ ∀ H', Q (.bl true) H'
section
variable {P : Program} {w : World} {K : PySem.W.Frag} {mg : Str → Option Value} {base : Heap} {CM CE CT fI fE : Addr} {fdI fdE : FuncData}
theorem ok_law {f fdr fwi fan fof fre fli fmt : Addr} {fd gdr gwi gan gof gre gli gmt : FuncData} (A0 : Df K mg "law" s_law f fd P_law)
    (d_law_draw : Df K mg "_law_draw" s_law_draw fdr gdr P_law_draw) (d_law_wide : Df K mg "_law_wide" s_law_wide fwi gwi P_law_wide) (d_law_any : Df K mg "_law_any" s_law_any fan gan P_law_any) (d_law_of : Df K mg "_law_of" s_law_of fof gof P_law_of)
    (d_law_read : Df K mg "_law_read" s_law_read fre gre P_law_read) (d_law_line : Df K mg "_law_line" s_law_line fli gli P_law_line) (d_machine_text : Df K mg "machine_text" s_machine_text fmt gmt P_machine_text) (k_machine_text : KBn K gmt P_machine_text 0 ["machine"] uRev kRev)
    (G_law_wide : FnOk P w K mg base CX0 5 fwi gwi P_law_wide spWide) (G_law_read : FnOk P w K mg base CX0 10 fre gre P_law_read (spLawRead CM)) (G_law_line : FnOk P w K mg base CX0 3 fli gli P_law_line spLine) (G_machine_text : FnOk P w K mg base CX0 1 fmt gmt P_machine_text (spText CM))
    (MC : McT K mg CM fI fdI) (GI : FnOk P w K mg base (L2.CX P w) 7 fI fdI P_Machine___init (spInit CM CE)) (GE : FnOk P w K mg base CX0 1 fE fdE P_Machine___eq (spEqM CM)) (BE : Binds K fdE P_Machine___eq []) (TE : TxE K mg CM fE) (mS : mg "str" = none) (T : Txt mg) : FnOk P w K mg base CX0 11 f fd P_law (spLaw K) := by
  have G_law_any : FnOk P w K mg base CX0 1 fan gan P_law_any spAny := ok_any d_law_any T
  have G_law_draw : FnOk P w K mg base CX0 1 fdr gdr P_law_draw (spDraw K) := ok_draw d_law_draw T
  have G_law_of : FnOk P w K mg base CX0 2 fof gof P_law_of spOf := ok_of d_law_of d_law_any T
  refine A0.F.ok sc_law (fun vs H Q E h => ?_) (fun cdv Ar outer s H vs Q E hr h => ?_)
  · obtain ⟨a, ns, rfl, _⟩ := h
    rfl
  · obtain ⟨sa, sn, rfl, hsa, hsn, k⟩ := h
    refine ⟨_, (pss_cons (ps_set (i := 1) sc_law.nd rfl (Or.inl rfl) (pe_call G_law_draw (hr.mono (by decide)) rfl d_law_draw.g d_law_draw.F.kp d_law_draw.b .nil pass0 (pa_cons (pv 0) (pa_cons pe_int pa_nil))))
    (pss_cons (ps_asg (pe_call G_law_wide (hr.mono (by decide)) rfl d_law_wide.g d_law_wide.F.kp d_law_wide.b .nil pass0 (pa_cons (pv 1) (pa_cons pe_int pa_nil))) (pg_tup rfl (pgs_cons (pg_name (i := 2) sc_law.nd rfl (Or.inr rfl)) (pgs_cons (pg_name (i := 3) sc_law.nd rfl (Or.inl rfl)) pgs_nil))))
    (pss_cons (ps_par (i := 4) (j := 5) rfl sc_law.nd rfl rfl (by decide) rfl rfl (pa_cons (pe_make MC.mM GI (hr.mono (by decide)) rfl MC.g MC.b .nil (pass_never (P := P) (w := w)) (pa_cons (pv 2) (pa_cons (pv 3) pa_nil))) (pa_cons (pe_callB call_len_seq (by rfl) T.len PySem.boot_len (pa_cons (pv 3) pa_nil)) pa_nil)) rfl)
    (pss_cons (ps_set (i := 6) sc_law.nd rfl (Or.inl rfl) (pe_lst (pa_cons (pe_op op_add_str (pe_op op_add_str (pe_op op_add_str pe_str (pe_callTy call_str_int (by rfl) mS (by decide +kernel) (pa_cons (pv 2) pa_nil))) pe_str) (pe_callTy call_str_int (by rfl) mS (by decide +kernel) (pa_cons (pv 5) pa_nil))) pa_nil)))
    (pss_cons (ps_for PassesOwn.never rfl (pi_list (pv 3)) (pg_name (i := 7) sc_law.nd rfl (Or.inl rfl))
      (pss_one (ps_expr (pe_bm PySem.F.plainAttrs_list PySem.F.slot_list_append PySem.F.type_list_append mt_append (pv 6) (pa_cons (pe_join pe_str (pe_lc (own := [("to", 8)]) (g := gName 8) (tt := tYes) (te := tCB (fun xs H Q => ∃ i, xs = [.int i] ∧ i.natAbs.log2 < 1920 ∧ Q (.str (toString i)) H) (tCons (tVar 8) tNil)) rfl sc_law.nd (pi_list (pv 7)) (blkOk_by (N := N_law) (sc := defScope s_law) (by decide +kernel)) (fun _ _ _ _ _ => (pg_name (i := 8) sc_law.nd rfl (Or.inl rfl))) (fun _ _ _ _ _ => pts_nil) (fun _ _ _ _ _ => (pe_callTy call_str_int (by rfl) mS (by decide +kernel) (pa_cons (pv 8) pa_nil))))) pa_nil)))))
    (pss_cons (ps_set (i := 9) sc_law.nd rfl (Or.inl rfl) (pe_join pe_str (pv 6)))
    (pss_cons (ps_if (PW.pt (pw_or (pt_cmpR op_ne (pe_kw (ks := ["machine"]) G_machine_text (hr.mono (by decide)) rfl d_machine_text.g d_machine_text.F.kp k_machine_text (out0 (E := E0)) (pk_cons (pv 4) pk_nil)) (pv 9) (nomark _)) (pw_or1 (pt_cmpR (op_neM GE BE TE (hr.mono (by decide))) (pe_call G_law_read (hr.mono (by decide)) rfl d_law_read.g d_law_read.F.kp d_law_read.b .nil pass0 (pa_cons (pv 9) pa_nil)) (pv 4) (nomark _))))) (pss_one (ps_ret pe_bl)) pss_nil)
    (pss_cons (ps_set (i := 10) sc_law.nd rfl (Or.inl rfl) (pe_call G_law_any (hr.mono (by decide)) rfl d_law_any.g d_law_any.F.kp d_law_any.b .nil pass0 (pa_cons (pv 1) (pa_cons (pe_callB call_len_seq (by rfl) T.len PySem.boot_len (pa_cons (pv 6) pa_nil)) pa_nil))))
    (pss_cons (ps_set (i := 11) sc_law.nd rfl (Or.inl rfl) (pe_op op_cat (pe_op op_cat (pe_slice sl_list (pv 6) po_none (po_some (pv 10))) (pe_lst (pa_cons (pe_call G_law_line (hr.mono (by decide)) rfl d_law_line.g d_law_line.F.kp d_law_line.b .nil pass0 (pa_cons (pv 1) (pa_cons (pv 2) (pa_cons (pv 5) (pa_cons (pv 10) pa_nil))))) pa_nil))) (pe_slice sl_list (pv 6) (po_some (pe_op op_add (pv 10) pe_int)) po_none)))
    (pss_cons (ps_if (pt_cmpR op_ne (pe_call G_law_read (hr.mono (by decide)) rfl d_law_read.g d_law_read.F.kp d_law_read.b .nil pass0 (pa_cons (pe_join pe_str (pv 11)) pa_nil)) (pv 10) (nomark _)) (pss_one (ps_ret pe_bl)) pss_nil)
    (pss_cons (ps_if (PW.pt (pw_and (pt_cmpR op_lt (pv 10) (pe_op op_sub (pe_callB call_len_seq (by rfl) T.len PySem.boot_len (pa_cons (pv 6) pa_nil)) pe_int) (nomark _)) (pw_and1 (pt_cmpR op_ne (pe_call G_law_read (hr.mono (by decide)) rfl d_law_read.g d_law_read.F.kp d_law_read.b .nil pass0 (pa_cons (pe_join pe_str (pe_op op_cat (pe_slice sl_list (pv 11) po_none (po_some (pe_un un_neg pe_int))) (pe_lst (pa_cons pe_str pa_nil)))) pa_nil)) (pv 10) (nomark _))))) (pss_one (ps_ret pe_bl)) pss_nil)
    (pss_cons (ps_if (PW.pt (pw_or (pt_cmpR op_ne (pe_call G_law_read (hr.mono (by decide)) rfl d_law_read.g d_law_read.F.kp d_law_read.b .nil pass0 (pa_cons (pe_join pe_str (pe_slice sl_list (pv 6) po_none (po_some (pe_un un_neg pe_int)))) pa_nil)) (pe_op op_sub (pe_callB call_len_seq (by rfl) T.len PySem.boot_len (pa_cons (pv 6) pa_nil)) pe_int) (nomark _)) (pw_or1 (pt_cmpR op_ne (pe_call G_law_read (hr.mono (by decide)) rfl d_law_read.g d_law_read.F.kp d_law_read.b .nil pass0 (pa_cons (pe_op op_add_str (pv 9) pe_str) pa_nil)) (pe_callB call_len_seq (by rfl) T.len PySem.boot_len (pa_cons (pv 6) pa_nil)) (nomark _))))) (pss_one (ps_ret pe_bl)) pss_nil)
    (pss_cons (ps_if (PW.pt (pw_or (pt_cmpR op_ne (pe_call G_law_read (hr.mono (by decide)) rfl d_law_read.g d_law_read.F.kp d_law_read.b .nil pass0 (pa_cons (pe_op op_add_str (pe_op op_add_str (pv 9) pe_str) (pe_ix ix_list (pv 6) pe_int (fun _ _ => rfl))) pa_nil)) (pe_callB call_len_seq (by rfl) T.len PySem.boot_len (pa_cons (pv 6) pa_nil)) (nomark _)) (pw_or1 (pt_cmpR op_ne (pe_call G_law_read (hr.mono (by decide)) rfl d_law_read.g d_law_read.F.kp d_law_read.b .nil pass0 (pa_cons (pe_call G_law_of (hr.mono (by decide)) rfl d_law_of.g d_law_of.F.kp d_law_of.b .nil pass0 (pa_cons (pv 1) (pa_cons (pe_lst (pa_cons pe_non (pa_cons pe_int (pa_cons (pe_lst (pa_cons (pv 9) pa_nil)) (pa_cons (pe_tup (pa_cons (pv 9) pa_nil)) pa_nil))))) pa_nil))) pa_nil)) pe_int (nomark _))))) (pss_one (ps_ret pe_bl)) pss_nil)
    (pss_cons (ps_setLc (i := 12) (own := [("state", 13)]) (g := gName 13) (tt := tYes) rfl sc_law.nd rfl rfl (sw_true rfl rfl rfl (by decide +kernel)) (pi_range1 rfl T.range (pa_cons pe_int pa_nil)) (blkOk_by (N := N_law) (sc := defScope s_law) (by decide +kernel)) (fun _ _ _ _ _ => (pg_name (i := 13) sc_law.nd rfl (Or.inr rfl))) (fun _ _ _ _ _ => pts_nil) (fun _ _ _ _ _ => (by exact pe_lc (own := [("at", 10)]) (wi := iRng1 (tCons (tVar 2) tNil)) (g := gName 10) (tt := tYes) (te := tOp (rI (fun _ j => 0 < j) fun i j => .int (i % j)) (tCB (fun xs H Q => (∃ i, xs = [.int i] ∧ Q (.int i) H) ∨ ∃ k, xs = [.bl k] ∧ Q (.int (if k then 1 else 0)) H) (tCons (tOp (rI0 fun i j => .int (i + j)) (tOp (rI0 fun i j => .int (i + j)) (tVar 13) (tC (.int 1))) (tVar 10)) tNil)) (tC (.int 10))) rfl sc_law.nd (pi_range1 rfl T.range (pa_cons (pv 2) pa_nil)) okIn (fun _ _ _ _ _ => (pg_name (i := 10) sc_law.nd rfl (Or.inl rfl))) (fun _ _ _ _ _ => pts_nil) (fun _ _ _ _ _ => (pe_op op_mod (pe_callTy call_int1 (by rfl) T.int (by decide +kernel) (pa_cons (pe_op op_add (pe_op op_add (pv 13) pe_int) (pv 10)) pa_nil)) pe_int)))))
    (pss_cons (ps_set (i := 14) sc_law.nd rfl (Or.inl rfl) (pe_call G_machine_text (hr.mono (by decide)) rfl d_machine_text.g d_machine_text.F.kp d_machine_text.b .nil pass0 (pa_cons (pe_make MC.mM GI (hr.mono (by decide)) rfl MC.g MC.b .nil (pass_never (P := P) (w := w)) (pa_cons (pv 2) (pa_cons (pv 12) pa_nil))) pa_nil)))
    (pss_one (ps_ret (pe_and (pe_cmpR (op_eqM GE BE TE (hr.mono (by decide))) (pe_call G_law_read (hr.mono (by decide)) rfl d_law_read.g d_law_read.F.kp d_law_read.b .nil pass0 (pa_cons (pv 14) pa_nil)) (pe_make MC.mM GI (hr.mono (by decide)) rfl MC.g MC.b .nil (pass_never (P := P) (w := w)) (pa_cons (pv 2) (pa_cons (pv 12) pa_nil))) (nomark _)) (pe_one (pe_cmpR op_eq (pe_ix ix_list (pe_split (pv 14) pe_str) pe_int (fun _ _ => rfl)) (pe_op op_add_str (pe_op op_add_str pe_str (pe_callTy call_str_int (by rfl) mS (by decide +kernel) (pa_cons (pv 2) pa_nil))) pe_str) (nomark _))))))))))))))))))))), ?_⟩
    refine ⟨_, rfl, sa, sn, 4, rfl, hsa, hsn, by decide, by decide, fun H1 d l D1 S1 hd hl => ?_⟩
    refine ⟨_, rfl, d, l, 10, rfl, by decide, by decide, D1, fun H2 t a A ts D2 S2 t0 ht N2 G2 h0 h5 hm R2 => ?_⟩
    refine ⟨t, _, rfl, SqT.of ht, rfl, _, _, rfl, _, _, rfl, rfl, ?_⟩
    have na : ¬ dl d l a := D1.free N2.top
    have hz : ts.length ≤ 10 := by omega
    have RR : Rs A (rsOf ts) := R2.rs
    have X9 : Rt9 A (rsOf ts) := ⟨h0, by omega, RR, by rw [rsOf_len]; omega⟩
    refine norm (σ' := [some (.ref sa), some (.ref d), some (.int (A : Int)), some (.ref a), none, none, none, none, none, none, none, none, none, none, none]) rfl ?_
    refine ⟨_, rfl, _, rfl, make_rows (CE := CE) h0 (by omega) G2 RR (by omega) fun H4 m us S4 hm4 M4 e4 => ?_⟩
    have G4 := G2.kp (KP.same (S := fun _ => False) S4) (fun q => q) (fun _ _ q => q)
    refine ⟨_, rfl, a, _, rfl, .inl (SqL.of G4.top), _, _, rfl, ?_⟩
    rw [List.length_map]
    refine norm (σ' := [some (.ref sa), some (.ref d), some (.int (A : Int)), some (.ref a), some (.ref m), some (.int (ts.length : Int)), none, none, none, none, none, none, none, none, none]) rfl ?_
    have U0 : (0 : Int) ≤ (ts.length : Int) := by omega
    have U9 : (ts.length : Int) ≤ 99 := by omega
    have A0' : (0 : Int) ≤ (A : Int) := by omega
    have A9' : (A : Int) ≤ 99 := by omega
    have lA := txt_len A0' A9'
    have lS := txt_len U0 U9
    have c8 : (("machine " : Str)).length = 8 := by decide +kernel
    have c1 : ((" " : Str)).length = 1 := by decide +kernel
    have sz : sizeLine = 16777216 := rfl
    refine ⟨_, rfl, (A : Int), rfl, log_small A0' A9', _, _, rfl, rfl, by show _ + (txtN (A : Int)).length ≤ _; rw [c8]; omega, _, _, rfl, rfl, by rw [app_len, c8, c1]; show 8 + (txtN (A : Int)).length + 1 ≤ _; omega, _, rfl, (ts.length : Int), rfl, log_small U0 U9, _, _, rfl, rfl, by rw [app_len, app_len, c8, c1]; show 8 + (txtN (A : Int)).length + 1 + (txtN (ts.length : Int)).length ≤ _; omega, by show 1 ≤ sizeLine; decide, fun L hL => ?_⟩
    have eh := head_eq2 (A : Int) (ts.length : Int)
    unfold txtN at eh
    rw [eh]
    have eL : linesT (A : Int) (rsOf ts) = headT (A : Int) (ts.length : Int) :: (rsOf ts).map rowT := by
      unfold linesT
      rw [rsOf_len]
    have lenL : (linesT (A : Int) (rsOf ts)).length = ts.length + 1 := by
      rw [eL, List.length_cons, List.length_map, rsOf_len]
    have memL : ∀ x ∈ linesT (A : Int) (rsOf ts), x.length ≤ 297 := fun x hx => by
      rw [eL] at hx
      rcases List.mem_cons.mp hx with e | hx
      · rw [e]
        have := head_len A0' A9' U0 U9
        omega
      · obtain ⟨r, hr, rfl⟩ := List.mem_map.mp hx
        have := row_len (X9.z r hr)
        have := (RR.row r hr).1
        omega
    -- the lines
    refine ⟨_, rfl, a, rfl, ⟨_, SqL.of (Same.new hL _ _ G4.top)⟩, ?_⟩
    refine for_it walk_list (fun i σ H5 => ∃ o : Option V, σ = [some (.ref sa), some (.ref d), some (.int (A : Int)), some (.ref a), some (.ref m), some (.int (ts.length : Int)), some (.ref L), o, none, none, none, none, none, none, none] ∧ Same H4 H5 ∧ H5 L = some (.lst (((linesT (A : Int) (rsOf ts)).take (i + 1)).map V.str))) ⟨_, rfl, Same.new hL, by rw [upd_same, eL]; rfl⟩ (fun i σ H5 _ p => by
      obtain ⟨o, _, S, _⟩ := p
      exact SqL.of (S _ _ G4.top)) ?_ ?_
    · rintro i x σ H5' H5 hi ⟨o, rfl, S5, eL5⟩ ⟨rfl, hx⟩
      obtain ⟨u, hu', rfl⟩ : ∃ u, ts[i]? = some u ∧ x = .ref u.1 := by
        rw [List.getElem?_map] at hx
        cases e : ts[i]? with
        | none => rw [e] at hx; cases hx
        | some w => rw [e] at hx; cases hx; exact ⟨w, rfl, rfl⟩
      have hmem := List.mem_of_getElem? hu'
      have er := S5 _ _ (G4.row u hmem)
      have hr2 : u.2 ∈ rsOf ts := List.mem_map_of_mem hmem
      have hrl := (RR.row _ hr2).1
      refine ⟨_, rfl, .inl ⟨rfl, _, SqL.of eL5⟩, ⟨_, rfl⟩, _, rfl, u.1, rfl, ⟨_, SqL.of er⟩, fun D hD => ?_⟩
      refine lc_strs (row := u.2) walk_list (fun H6 S6 => SqL.of (S6 _ _ er)) (fun _ _ _ _ h => h) (by show 8 < 15; decide) (X9.z _ hr2) (by omega) hD (fun H6 S6 e6 => ?_)
      refine ⟨_, D, u.2.map txtN, rfl, rfl, .inl (SqL.of e6), ?_, ?_⟩
      · have := sum_le (xs := u.2.map txtN) (n := 2) fun x hx => by
          obtain ⟨z, hz, rfl⟩ := List.mem_map.mp hx
          exact txt_len (X9.z _ hr2 z hz).1 (X9.z _ hr2 z hz).2
        rw [List.length_map] at this ⊢
        rw [c1]
        omega
      · refine ⟨L, _, _, rfl, rfl, S6 _ _ eL5, ?_, _, rfl, ((KP.same (S := fun _ => False) (S5.trans S6)).mut hL).toSame, ?_⟩
        · rw [List.length_map, List.length_take, lenL]
          omega
        · rw [upd_same]
          have hx2 : (linesT (A : Int) (rsOf ts))[i + 1]? = some (rowT u.2) := by
            rw [eL, List.getElem?_cons_succ, List.getElem?_map]
            unfold rsOf
            rw [List.getElem?_map, hu']
            rfl
          rw [take_next hx2, List.map_append]
          rfl
    rintro σ H5 ⟨o, rfl, S5, eL5⟩
    rw [List.length_map, List.take_of_length_le (by rw [lenL]; exact Nat.le_refl _)] at eL5
    have D4 : DealAt H4 d l := D2.same S4
    have b5 : Bd CM H5 d l m L (A : Int) us (linesT (A : Int) (rsOf ts)) := ⟨D4.same S5, M4.same S5, eL5, D4.free hL⟩
    have cn : ((Str.ofString "\n")).length = 1 := by decide +kernel
    have e10 : (Str.ofString "\n") = chr1 10 := by decide +kernel
    have sumL := sum_le memL
    refine ⟨⟨_, rfl⟩, _, rfl, _, L, linesT (A : Int) (rsOf ts), rfl, rfl, .inl (SqL.of eL5), by rw [cn, lenL] at *; omega, ?_⟩
    rw [e10]
    have rT := read_ok X9
    have rL := read_less X9
    have rM := fun y hy => read_more (y := y) X9 hy
    have rB := fun z k post hk b hz hp => read_bad (z := z) (k := k) (post := post) X9 hk b hz hp
    have usl : us.length = ts.length := by rw [← rsOf_len us, e4, rsOf_len]
    have usr : ∀ u ∈ us, u.2.length ≤ 99 ∧ ∀ z ∈ u.2, 0 ≤ z ∧ z ≤ 99 := fun u hu => by
      have hr2 : u.2 ∈ rsOf ts := by rw [← e4]; exact List.mem_map_of_mem hu
      exact ⟨by have := (RR.row _ hr2).1; omega, X9.z _ hr2⟩
    have lsz := szJ (X := linesT (A : Int) (rsOf ts)) (by omega) (fun x hx => by have := memL x hx; omega)
    have hTl := lsz.2
    have lf := X9.free
    generalize eT : Txt.join (chr1 10) (linesT (A : Int) (rsOf ts)) = T at *
    -- told and read
    refine ⟨_, rfl, rfl, m, (A : Int), us, rfl, b5.M, ⟨A0', A9'⟩, by omega, usr, fun H6 S6 => ⟨_, rfl, rfl, _, rfl, ?_⟩⟩
    rw [e4, eT, decide_eq_true rfl]
    refine iteF ?_
    refine ⟨_, rfl, ?_⟩
    refine lawRead_ok (E := E0) hTl rT.1 rT.2 fun H7 m2 us2 S7 hm7 M7 e7 => ?_
    have b7 := (b5.same S6).same S7
    refine ⟨_, rfl, m2, (A : Int), us2, some ((A : Int), us), rfl, M7, .mach b7.M, _, rfl, ?_⟩
    have eq1 : rowsEq (A : Int) us2 (some ((A : Int), us)) = true := by
      unfold rowsEq
      show (decide ((A : Int) = (A : Int)) && decide (rsOf us2 = rsOf us)) = true
      rw [e7, e4, decide_eq_true rfl, decide_eq_true rfl]
      rfl
    rw [eq1]
    refine iteF ?_
    -- a line
    refine ⟨_, rfl, _, rfl, L, _, rfl, .inl (SqL.of b7.ln), d, l, _, rfl, by rw [List.length_map, lenL]; omega, by rw [List.length_map, lenL]; omega, b7.D, fun H8 r D8 S8 r0 r1 => ?_⟩
    rw [List.length_map, lenL] at r1
    obtain ⟨k8, rfl⟩ : ∃ n : Nat, r = (n : Int) := ⟨r.toNat, by omega⟩
    have hk8 : k8 ≤ ts.length := by omega
    have b8 := b7.go D8 S8
    have dec_row : ∀ n : Nat, (!decide (V.int (n : Int) = V.int (n : Int))) = false := fun n => by rw [decide_eq_true rfl]; rfl
    -- a spoilt line
    refine ⟨_, rfl, _, rfl, (k8 : Int), rfl, L, _, rfl, SqL.of b8.ln, fun p1 hp1 => ?_⟩
    rw [cut_to (by rw [List.length_map, lenL]; omega)]
    refine ⟨_, rfl, _, rfl, _, rfl, _, rfl, d, l, (A : Int), (ts.length : Int), (k8 : Int), rfl, b8.D.new hp1, ⟨by omega, by omega⟩, ⟨by have := RR.pos; rw [rsOf_len] at this; omega, by omega⟩, fun H10 z D10 S10 bz fz lz => ⟨by show 1 ≤ sizeLine; decide, fun p2 hp2 => ?_⟩⟩
    have b10 := (b8.same (Same.new hp1)).go D10 S10
    have e1 := S10.kp.get (b8.D.free hp1) (o := HO.lst ((((linesT (A : Int) (rsOf ts)).map V.str)).take k8)) upd_same
    refine ⟨p1, p2, _, _, rfl, rfl, Same.new hp2 _ _ e1, upd_same, ?_, fun p3 hp3 => ?_⟩
    · rw [List.length_take, List.length_map, lenL]
      show _ + 1 ≤ _
      omega
    have b11 := (b10.same (Same.new hp2 (o := .lst [.str z]))).same (Same.new hp3 (o := .lst ((((linesT (A : Int) (rsOf ts)).map V.str)).take k8 ++ [.str z])))
    refine ⟨_, rfl, _, rfl, _, _, rfl, rfl, (k8 : Int) + 1, rfl, L, _, rfl, SqL.of b11.ln, fun p4 hp4 => ?_⟩
    have e3 : upd (upd H10 p2 (.lst [.str z])) p3 (.lst ((((linesT (A : Int) (rsOf ts)).map V.str)).take k8 ++ [.str z])) p3 = some (.lst ((((linesT (A : Int) (rsOf ts)).map V.str)).take k8 ++ [.str z])) := upd_same
    generalize upd (upd H10 p2 (.lst [.str z])) p3 (.lst ((((linesT (A : Int) (rsOf ts)).map V.str)).take k8 ++ [.str z])) = H11 at *
    have ec : cutV ((linesT (A : Int) (rsOf ts)).map V.str) (some ((k8 : Int) + 1)) none = ((linesT (A : Int) (rsOf ts)).map V.str).drop (k8 + 1) := by
      have := cut_from (xs := (linesT (A : Int) (rsOf ts)).map V.str) (n := k8 + 1) (by rw [List.length_map, lenL]; omega)
      rw [← this]
      rfl
    rw [ec]
    have b12 := b11.same (Same.new hp4 (o := .lst (((linesT (A : Int) (rsOf ts)).map V.str).drop (k8 + 1))))
    refine ⟨p3, p4, _, _, rfl, rfl, Same.new hp4 _ _ e3, upd_same, ?_, fun p5 hp5 => ?_⟩
    · rw [List.length_append, List.length_take, List.length_drop, List.length_map, lenL]
      show _ + 1 + _ ≤ _
      omega
    have esp : ((linesT (A : Int) (rsOf ts)).map V.str).take k8 ++ [V.str z] ++ ((linesT (A : Int) (rsOf ts)).map V.str).drop (k8 + 1) = ((linesT (A : Int) (rsOf ts)).take k8 ++ z :: (linesT (A : Int) (rsOf ts)).drop (k8 + 1)).map V.str := by
      rw [List.map_append, List.map_cons, List.map_take, List.map_drop, List.append_assoc]
      rfl
    rw [esp]
    have b13 := b12.same (Same.new hp5 (o := .lst (((linesT (A : Int) (rsOf ts)).take k8 ++ z :: (linesT (A : Int) (rsOf ts)).drop (k8 + 1)).map V.str)))
    have e5 : upd (upd H11 p4 (.lst (((linesT (A : Int) (rsOf ts)).map V.str).drop (k8 + 1)))) p5 (.lst (((linesT (A : Int) (rsOf ts)).take k8 ++ z :: (linesT (A : Int) (rsOf ts)).drop (k8 + 1)).map V.str)) p5 = some (.lst (((linesT (A : Int) (rsOf ts)).take k8 ++ z :: (linesT (A : Int) (rsOf ts)).drop (k8 + 1)).map V.str)) := upd_same
    generalize upd (upd H11 p4 (.lst (((linesT (A : Int) (rsOf ts)).map V.str).drop (k8 + 1)))) p5 (.lst (((linesT (A : Int) (rsOf ts)).take k8 ++ z :: (linesT (A : Int) (rsOf ts)).drop (k8 + 1)).map V.str)) = H13 at *
    have hpost : ∀ x ∈ (linesT (A : Int) (rsOf ts)).drop (k8 + 1), x.length ≤ 297 ∧ free 10 x := fun x hx => ⟨memL x (List.mem_of_mem_drop hx), lf x (List.mem_of_mem_drop hx)⟩
    have hpl : ((linesT (A : Int) (rsOf ts)).drop (k8 + 1)).length = ts.length - k8 := by
      rw [List.length_drop, lenL]
      omega
    have hTk : ((linesT (A : Int) (rsOf ts)).take k8).length = k8 := by
      rw [List.length_take, lenL]
      omega
    have mTk : ∀ x ∈ (linesT (A : Int) (rsOf ts)).take k8, x.length ≤ 297 := fun x hx => memL x (List.mem_of_mem_take hx)
    have bz' : badL (A : Int) ((rsOf ts).length : Int) (k8 : Int) z := by
      rw [rsOf_len]
      exact bz
    -- read
    have s1 := szJ (X := (linesT (A : Int) (rsOf ts)).take k8 ++ z :: (linesT (A : Int) (rsOf ts)).drop (k8 + 1)) (by rw [List.length_append, List.length_cons, hTk, hpl]; omega) (fun x hx => by
      rcases List.mem_append.mp hx with h | h
      · have := mTk x h
        omega
      · rcases List.mem_cons.mp h with h | h
        · rw [h]
          exact lz
        · have := (hpost x h).1
          omega)
    refine ⟨⟨_, rfl⟩, _, rfl, _, p5, _, rfl, rfl, .inl (SqL.of e5), s1.1, ?_⟩
    refine lawRead_bad (E := E0) s1.2 (rB z k8 _ (by rw [rsOf_len]; exact hk8) bz' fz fun x hx => (hpost x hx).2) fun H14 S14 => ⟨_, rfl, rfl, _, rfl, ?_⟩
    rw [dec_row]
    refine iteF ?_
    have b14 := b13.same S14
    have e5' := S14 _ _ e5
    -- with another last line
    have lastI : decide ((k8 : Int) < ((((linesT (A : Int) (rsOf ts)).map V.str).length : Int) - 1)) = decide (k8 < ts.length) := by
      rw [List.length_map, lenL]
      by_cases h : k8 < ts.length
      · rw [decide_eq_true h, decide_eq_true (by omega)]
      · rw [decide_eq_false h, decide_eq_false (by omega)]
    refine tNext_go ?_
    refine joinIf (by with_reducible rfl) (fun H' => Bd CM H' d l m L (A : Int) us (linesT (A : Int) (rsOf ts))) (fun Q' kQ => ?_) (fun H15 b15 => ?_)
    · refine ⟨_, rfl, _, rfl, L, _, rfl, .inl (SqL.of b14.ln), _, _, rfl, rfl, _, _, rfl, rfl, _, rfl, ?_⟩
      rw [lastI]
      by_cases hk : k8 < ts.length
      · rw [decide_eq_true hk]
        refine iteT ?_
        refine ⟨⟨_, rfl⟩, _, rfl, 1, rfl, (-1 : Int), rfl, p5, _, rfl, SqL.of e5', fun q1 hq1 => ?_⟩
        have hdn : (linesT (A : Int) (rsOf ts)).drop (k8 + 1) ≠ [] := fun e => by
          rw [e] at hpl
          simp at hpl
          omega
        have ed : cutV (((linesT (A : Int) (rsOf ts)).take k8 ++ z :: (linesT (A : Int) (rsOf ts)).drop (k8 + 1)).map V.str) none (some (-1)) = ((linesT (A : Int) (rsOf ts)).take k8 ++ z :: ((linesT (A : Int) (rsOf ts)).drop (k8 + 1)).dropLast).map V.str := by
          rw [cut_last, ← List.map_dropLast, List.dropLast_append_of_ne_nil (by simp), List.dropLast_cons_of_ne_nil hdn]
        rw [ed]
        have b16 := b14.same (Same.new hq1 (o := .lst (((linesT (A : Int) (rsOf ts)).take k8 ++ z :: ((linesT (A : Int) (rsOf ts)).drop (k8 + 1)).dropLast).map V.str)))
        refine ⟨by show 1 ≤ sizeLine; decide, fun q2 hq2 => ?_⟩
        have b17 := b16.same (Same.new hq2 (o := .lst [.str "x"]))
        refine ⟨q1, q2, _, _, rfl, rfl, Same.new hq2 _ _ upd_same, upd_same, ?_, fun q3 hq3 => ?_⟩
        · rw [List.length_map, List.length_append, List.length_cons, List.length_dropLast, hTk, hpl]
          show _ + 1 ≤ _
          omega
        have ex : ((linesT (A : Int) (rsOf ts)).take k8 ++ z :: ((linesT (A : Int) (rsOf ts)).drop (k8 + 1)).dropLast).map V.str ++ [V.str "x"] = ((linesT (A : Int) (rsOf ts)).take k8 ++ z :: (((linesT (A : Int) (rsOf ts)).drop (k8 + 1)).dropLast ++ [("x" : Str)])).map V.str := by
          rw [List.map_append, List.map_append, List.map_cons, List.map_cons, List.map_append, List.append_assoc]
          rfl
        rw [ex]
        have b18 := b17.same (Same.new hq3 (o := .lst (((linesT (A : Int) (rsOf ts)).take k8 ++ z :: (((linesT (A : Int) (rsOf ts)).drop (k8 + 1)).dropLast ++ [("x" : Str)])).map V.str)))
        have hpx : ∀ x ∈ ((linesT (A : Int) (rsOf ts)).drop (k8 + 1)).dropLast ++ [("x" : Str)], x.length ≤ 297 ∧ free 10 x := fun x hx => by
          rcases List.mem_append.mp hx with h | h
          · exact hpost x ((List.dropLast_sublist _).subset h)
          · rw [List.mem_singleton.mp h]
            exact ⟨by decide +kernel, (okW_of (w := ("x" : Str)) (by decide +kernel)).2.1⟩
        have s2 := szJ (X := (linesT (A : Int) (rsOf ts)).take k8 ++ z :: (((linesT (A : Int) (rsOf ts)).drop (k8 + 1)).dropLast ++ [("x" : Str)])) (by rw [List.length_append, List.length_cons, List.length_append, List.length_dropLast, hTk, hpl, List.length_singleton]; omega) (fun x hx => by
          rcases List.mem_append.mp hx with h | h
          · have := mTk x h
            omega
          · rcases List.mem_cons.mp h with h | h
            · rw [h]
              exact lz
            · have := (hpx x h).1
              omega)
        refine ⟨_, q3, _, rfl, rfl, .inl (SqL.of upd_same), s2.1, ?_⟩
        refine lawRead_bad (E := E0) s2.2 (rB z k8 _ (by rw [rsOf_len]; exact hk8) bz' fz fun x hx => (hpx x hx).2) fun H19 S19 => ⟨_, rfl, rfl, _, rfl, ?_⟩
        rw [dec_row]
        exact kQ _ (b18.same S19)
      · rw [decide_eq_false hk]
        exact iteF (kQ _ b14)
    -- a line less, a line more
    have c10 : (chr1 10).length = 1 := rfl
    have eM : (!decide (V.int ((((rsOf ts).length + 1 : Nat)) : Int) = V.int ((((linesT (A : Int) (rsOf ts)).map V.str).length : Int)))) = false := by
      rw [dec_intI, List.length_map, lenL, rsOf_len, decide_eq_true rfl]
      rfl
    have hTm : ∀ y, free 10 y → readR ((T ++ (chr1 10)) ++ y) = some ((rsOf ts).length + 1) := fun y hy => by
      have := rM y hy
      rw [join_snoc (by rw [eL]; simp), eT] at this
      exact this
    have hTn : readR (T ++ (chr1 10)) = some ((rsOf ts).length + 1) := by
      have := hTm ("" : Str) (okW_of (w := ("" : Str)) (by decide +kernel)).2.1
      have e : (T ++ (chr1 10)) ++ ("" : Str) = T ++ (chr1 10) := by
        apply str_eq
        rw [Str.cps_append, Array.toList_append]
        have : ("" : Str).cps.toList = [] := by decide +kernel
        rw [this, List.append_nil]
      rw [e] at this
      exact this
    obtain ⟨y1, hy1⟩ : ∃ y, (linesT (A : Int) (rsOf ts))[1]? = some y := by
      have := RR.pos
      rw [rsOf_len] at this
      exact ⟨_, List.getElem?_eq_getElem (by rw [lenL]; omega)⟩
    have fy1 := lf y1 (List.mem_of_getElem? hy1)
    have ly1 := memL y1 (List.mem_of_getElem? hy1)
    have hTl2 : T.length ≤ 12012 := by
      have := joinT_len_le 10 (n := 1000) (xs := linesT (A : Int) (rsOf ts)) (fun x hx => by have := memL x hx; omega)
      rw [eT, lenL] at this
      omega
    refine joinIf (by with_reducible rfl) (fun H' => Bd CM H' d l m L (A : Int) us (linesT (A : Int) (rsOf ts))) (fun Q' kQ => ?_) (fun H20 b20 => ?_)
    · refine ⟨⟨_, rfl⟩, _, rfl, 1, rfl, (-1 : Int), rfl, L, _, rfl, SqL.of b15.ln, fun q1 hq1 => ?_⟩
      rw [cut_last, ← List.map_dropLast]
      have b16 := b15.same (Same.new hq1 (o := .lst ((linesT (A : Int) (rsOf ts)).dropLast.map V.str)))
      have s3 := szJ (X := (linesT (A : Int) (rsOf ts)).dropLast) (by rw [List.length_dropLast, lenL]; omega) (fun x hx => by
        have := memL x ((List.dropLast_sublist _).subset hx)
        omega)
      refine ⟨_, q1, _, rfl, rfl, .inl (SqL.of upd_same), s3.1, ?_⟩
      refine lawRead_bad (E := E0) s3.2 rL fun H16 S16 => ?_
      have b17 := b16.same S16
      refine ⟨_, rfl, L, _, rfl, .inl (SqL.of b17.ln), _, _, rfl, rfl, rfl, _, rfl, ?_⟩
      have eN : (!decide (V.int ((rsOf ts).length : Int) = V.int ((((linesT (A : Int) (rsOf ts)).map V.str).length : Int) - 1))) = false := by
        rw [dec_intI, List.length_map, lenL, rsOf_len, decide_eq_true (by omega)]
        rfl
      rw [eN]
      refine iteF ?_
      refine ⟨_, rfl, _, _, rfl, rfl, by rw [c10]; omega, ?_⟩
      refine lawRead_bad (E := E0) (by rw [app_len, c10]; omega) hTn fun H17 S17 => ?_
      have b18 := b17.same S17
      refine ⟨_, rfl, L, _, rfl, .inl (SqL.of b18.ln), rfl, _, rfl, ?_⟩
      rw [eM]
      exact kQ _ b18
    refine joinIf (by with_reducible rfl) (fun H' => Bd CM H' d l m L (A : Int) us (linesT (A : Int) (rsOf ts))) (fun Q' kQ => ?_) (fun H30 b30 => ?_)
    · refine ⟨_, rfl, _, _, rfl, rfl, by rw [c10]; omega, _, rfl, L, _, 1, .str y1, rfl, rfl, SqL.of b20.ln, atI_int (by decide) (by rw [List.getElem?_map]; show ((linesT (A : Int) (rsOf ts))[1]?).map V.str = _; rw [hy1]; rfl), _, _, rfl, rfl, by rw [app_len, c10]; omega, ?_⟩
      refine lawRead_bad (E := E0) (by rw [app_len, app_len, c10]; omega) (hTm y1 fy1) fun H21 S21 => ?_
      have b21 := b20.same S21
      refine ⟨_, rfl, L, _, rfl, .inl (SqL.of b21.ln), rfl, _, rfl, ?_⟩
      rw [eM]
      refine iteF ?_
      refine ⟨_, rfl, _, rfl, by show 1 ≤ sizeLine; decide, fun q1 hq1 => ⟨_, rfl, by show 1 ≤ sizeLine; decide, fun q2 hq2 => ⟨by show 4 ≤ sizeLine; decide, fun q3 hq3 => ?_⟩⟩⟩
      have b22 := (b21.same (Same.new hq1 (o := .lst [.str T]))).same (Same.new hq2 (o := .tup [.str T]))
      have b23 := b22.same (Same.new hq3 (o := .lst [.non, .int 7, .ref q1, .ref q2]))
      refine ⟨d, l, q3, _, rfl, upd_same, b22.D.free hq3, by show 0 < 4; decide, by show 4 ≤ 1000; decide, b23.D, fun H24 i v D24 S24 hi => ?_⟩
      have b24 := b23.go D24 S24
      have g1 := S24.kp.get (b21.D.free hq1) (Same.new hq3 (o := .lst [.non, .int 7, .ref q1, .ref q2]) _ _ (Same.new hq2 (o := .tup [.str T]) _ _ (upd_same (H := H21) (a := q1) (o := .lst [.str T]))))
      have g2 := S24.kp.get ((b21.same (Same.new hq1 (o := .lst [.str T]))).D.free hq2) (Same.new hq3 (o := .lst [.non, .int 7, .ref q1, .ref q2]) _ _ (upd_same (H := upd H21 q1 (.lst [.str T])) (a := q2) (o := .tup [.str T])))
      have hv : ∃ dd, Dv H24 v dd ∧ isStrD dd = false := by
        match i, hi with
        | 0, hi => cases hi; exact ⟨_, .non, rfl⟩
        | 1, hi => cases hi; exact ⟨_, .int _, rfl⟩
        | 2, hi => cases hi; exact ⟨_, .lst g1 (.cons (.str _) .nil), rfl⟩
        | 3, hi => cases hi; exact ⟨_, .tup g2 (.cons (.str _) .nil), rfl⟩
        | n + 4, hi => simp at hi
      obtain ⟨dd, Dd, id⟩ := hv
      refine lawRead_not (E := E0) Dd id fun H25 S25 => ⟨rfl, _, rfl, ?_⟩
      exact kQ _ (b24.same S25)
    -- wide
    refine ⟨10, rfl, by decide, by decide, fun D hD => ?_⟩
    refine lc_it (n := (10 : Int).toNat) walk_range (fun i H' => Same H30 H' ∧ ∃ ws : List (Addr × List Int), rsOf ws = (List.range i).map (fun (i : Nat) => w10 A (0 + (i : Int))) ∧ GridAt H' D ws ∧ ∀ t ∈ ws, t.1 ≠ D) ⟨Same.new hD, [], rfl, ⟨upd_same, fun t ht => by cases ht⟩, fun t ht => by cases ht⟩ (fun _ _ _ _ => trivial) ?_ ?_
    · rintro i x H' H31 hi ⟨S31, ws, ew, GW, nW⟩ ⟨rfl, rfl⟩
      refine ⟨wipe1 _ _ _, ?_⟩
      refine tYes_go ?_
      simp only [↓reduceIte]
      refine ⟨_, rfl, (A : Int), rfl, by omega, by omega, fun D2 hD2 => ?_⟩
      refine lc_wrow rfl rfl (by omega) hD2 fun H32 S32 e32 => ?_
      have wl : ws.length = i := by rw [← rsOf_len, ew, List.length_map, List.length_range]
      have hi10 : i < 10 := hi
      refine ⟨_, S32 _ _ GW.top, by rw [List.length_map, wl, sz]; omega, ((KP.same (S := fun _ => False) (S31.trans S32)).mut hD).toSame, ws ++ [(D2, w10 A (0 + (i : Int)))], ?_, ⟨?_, fun t ht => ?_⟩, fun t ht => ?_⟩
      · rw [List.range_succ, List.map_append, ← ew]
        unfold rsOf
        rw [List.map_append]
        rfl
      · rw [upd_same, List.map_append]
        rfl
      · rcases List.mem_append.mp ht with h | h
        · rw [upd_ne (nW t h)]
          exact S32 _ _ (GW.row t h)
        · rw [List.mem_singleton.mp h, upd_ne (fun e => by
            have e : D2 = D := e
            rw [e, GW.top] at hD2
            cases hD2)]
          exact e32
      · rcases List.mem_append.mp ht with h | h
        · exact nW t h
        · rw [List.mem_singleton.mp h]
          intro e
          have e : D2 = D := e
          rw [e, GW.top] at hD2
          cases hD2
    rintro H33 ⟨S33, ws, ew, GW, nW⟩
    have ew : rsOf ws = (List.range 10).map (fun (i : Nat) => w10 A (0 + (i : Int))) := ew
    have RW : Rs A (rsOf ws) := by rw [ew]; exact rsW h0
    have wl : ws.length = 10 := by rw [← rsOf_len, ew]; rfl
    have XW : Rt9 A (rsOf ws) := ⟨h0, by omega, RW, by rw [rsOf_len]; omega⟩
    -- told
    refine ⟨_, rfl, _, rfl, make_rows (CE := CE) h0 (by omega) GW RW (by omega) fun H34 m4 us4 S34 hm4' M34 e34 => ?_⟩
    have us4r : ∀ u ∈ us4, u.2.length ≤ 99 ∧ ∀ z ∈ u.2, 0 ≤ z ∧ z ≤ 99 := fun u hu => by
      have hr2 : u.2 ∈ rsOf ws := by rw [← e34]; exact List.mem_map_of_mem hu
      exact ⟨by have := (RW.row _ hr2).1; omega, XW.z _ hr2⟩
    have us4l : us4.length = 10 := by rw [← rsOf_len us4, e34, rsOf_len, wl]
    refine ⟨m4, (A : Int), us4, rfl, M34, ⟨A0', A9'⟩, by omega, us4r, fun H35 S35 => ?_⟩
    rw [e34]
    have rT2 := read_ok XW
    have sp2 := split_join (c := 10) (xs := linesT (A : Int) (rsOf ws)) (by unfold linesT; simp) XW.free
    have eL2 : linesT (A : Int) (rsOf ws) = headT (A : Int) 10 :: (rsOf ws).map rowT := by
      unfold linesT
      rw [rsOf_len, wl]
      rfl
    have lenL2 : (linesT (A : Int) (rsOf ws)).length = 11 := by
      rw [eL2, List.length_cons, List.length_map, rsOf_len, wl]
    have hTl3 : (Txt.join (chr1 10) (linesT (A : Int) (rsOf ws))).length ≤ 12012 := by
      have := joinT_len_le 10 (n := 1000) (xs := linesT (A : Int) (rsOf ws)) (fun x hx => by
        rw [eL2] at hx
        rcases List.mem_cons.mp hx with e | hx
        · rw [e]
          have := head_len A0' A9' (S := 10) (by decide) (by decide)
          omega
        · obtain ⟨r, hr, rfl⟩ := List.mem_map.mp hx
          have := row_len (XW.z r hr)
          have := (RW.row r hr).1
          omega)
      rw [lenL2] at this
      omega
    generalize Txt.join (chr1 10) (linesT (A : Int) (rsOf ws)) = T2 at *
    refine ⟨_, rfl, ?_⟩
    refine lawRead_ok (E := E0) (by omega) rT2.1 rT2.2 fun H36 m5 us5 S36 hm5 M36 e36 => ?_
    have GW2 := ((GW.kp (KP.same (S := fun _ => False) S34) (fun q => q) (fun _ _ q => q)).kp (KP.same (S := fun _ => False) S35) (fun q => q) (fun _ _ q => q)).kp (KP.same (S := fun _ => False) S36) (fun q => q) (fun _ _ q => q)
    refine ⟨_, rfl, _, rfl, make_rows (CE := CE) h0 (by omega) GW2 RW (by omega) fun H37 m6 us6 S37 hm6 M37 e37 => ?_⟩
    refine ⟨m5, (A : Int), us5, some ((A : Int), us6), rfl, M36.same S37, .mach M37, ?_⟩
    have eq2 : rowsEq (A : Int) us5 (some ((A : Int), us6)) = true := by
      unfold rowsEq
      show (decide ((A : Int) = (A : Int)) && decide (rsOf us5 = rsOf us6)) = true
      rw [e36, e37, decide_eq_true rfl, decide_eq_true rfl]
      rfl
    rw [eq2]
    refine ⟨_, rfl, iteT ?_⟩
    refine ⟨_, rfl, ⟨_, rfl⟩, T2, _, rfl, rfl, by first | decide | rfl, by rw [sz]; omega, fun q hq => ?_⟩
    rw [sp2]
    have c3 : ((" 10" : Str)).length = 3 := by decide +kernel
    refine ⟨q, _, 0, .str (headT (A : Int) 10), rfl, rfl, SqL.of upd_same, atI_int (by decide) (by rw [eL2]; rfl), _, rfl, (A : Int), rfl, log_small A0' A9', _, _, rfl, rfl, by show _ + (txtN (A : Int)).length ≤ _; rw [c8]; omega, _, _, rfl, rfl, by rw [app_len, c8, c3]; show 8 + (txtN (A : Int)).length + 3 ≤ _; omega, rfl, ?_⟩
    rw [decide_eq_true (by rw [head10])]
    exact k _
end
end Lk

set_option Elab.async false
set_option linter.all false
set_option maxRecDepth 100000
set_option maxHeartbeats 4000000
namespace Lk
open PySem L2
theorem mk_is_integer {K : PySem.W.Frag} {h : Heap} {mg : Str → Option Value} {f : Addr} {od an : Option Addr} {sl : Array (Option Value)} {oc kV dc pm cd ct : Value} (X : K.In h) (G : h.Ns mainGlobals mg) (a : PySem.W.nsIn K mainGlobals "is_integer" = some (some (.ref f))) (l : K.lookup f = some ⟨oc, od, .func (PySem.W.fnOf "is_integer" "is_integer" (defArgs s_is_integer) (defBody s_is_integer) (defScope s_is_integer) .none kV dc pm an cd ct), sl⟩) (c : PySem.W.codeIn K cd "is_integer" = true) (k : PySem.W.keepIn K (.ref f) = true) :
    Df K mg "is_integer" s_is_integer f (PySem.W.fnOf "is_integer" "is_integer" (defArgs s_is_integer) (defBody s_is_integer) (defScope s_is_integer) .none kV dc pm an cd ct) P_is_integer := ⟨fun_mk (st := s_is_integer) l c k, PySem.W.mg_of X G a, (fun_mk (st := s_is_integer) l c k).binds fun _ _ _ _ _ _ us hl => match us, hl with | [_], _ => rfl⟩
theorem mk_is_number {K : PySem.W.Frag} {h : Heap} {mg : Str → Option Value} {f : Addr} {od an : Option Addr} {sl : Array (Option Value)} {oc kV dc pm cd ct : Value} (X : K.In h) (G : h.Ns mainGlobals mg) (a : PySem.W.nsIn K mainGlobals "is_number" = some (some (.ref f))) (l : K.lookup f = some ⟨oc, od, .func (PySem.W.fnOf "is_number" "is_number" (defArgs s_is_number) (defBody s_is_number) (defScope s_is_number) .none kV dc pm an cd ct), sl⟩) (c : PySem.W.codeIn K cd "is_number" = true) (k : PySem.W.keepIn K (.ref f) = true) :
    Df K mg "is_number" s_is_number f (PySem.W.fnOf "is_number" "is_number" (defArgs s_is_number) (defBody s_is_number) (defScope s_is_number) .none kV dc pm an cd ct) P_is_number := ⟨fun_mk (st := s_is_number) l c k, PySem.W.mg_of X G a, (fun_mk (st := s_is_number) l c k).binds fun _ _ _ _ _ _ us hl => match us, hl with | [_], _ => rfl⟩
theorem mk_is_below {K : PySem.W.Frag} {h : Heap} {mg : Str → Option Value} {f : Addr} {od an : Option Addr} {sl : Array (Option Value)} {oc kV dc pm cd ct : Value} (X : K.In h) (G : h.Ns mainGlobals mg) (a : PySem.W.nsIn K mainGlobals "is_below" = some (some (.ref f))) (l : K.lookup f = some ⟨oc, od, .func (PySem.W.fnOf "is_below" "is_below" (defArgs s_is_below) (defBody s_is_below) (defScope s_is_below) .none kV dc pm an cd ct), sl⟩) (c : PySem.W.codeIn K cd "is_below" = true) (k : PySem.W.keepIn K (.ref f) = true) :
    Df K mg "is_below" s_is_below f (PySem.W.fnOf "is_below" "is_below" (defArgs s_is_below) (defBody s_is_below) (defScope s_is_below) .none kV dc pm an cd ct) P_is_below := ⟨fun_mk (st := s_is_below) l c k, PySem.W.mg_of X G a, (fun_mk (st := s_is_below) l c k).binds fun _ _ _ _ _ _ us hl => match us, hl with | [_, _], _ => rfl⟩
theorem mk_is_sequence {K : PySem.W.Frag} {h : Heap} {mg : Str → Option Value} {f : Addr} {od an : Option Addr} {sl : Array (Option Value)} {oc kV dc pm cd ct : Value} (X : K.In h) (G : h.Ns mainGlobals mg) (a : PySem.W.nsIn K mainGlobals "is_sequence" = some (some (.ref f))) (l : K.lookup f = some ⟨oc, od, .func (PySem.W.fnOf "is_sequence" "is_sequence" (defArgs s_is_sequence) (defBody s_is_sequence) (defScope s_is_sequence) .none kV dc pm an cd ct), sl⟩) (c : PySem.W.codeIn K cd "is_sequence" = true) (k : PySem.W.keepIn K (.ref f) = true) :
    Df K mg "is_sequence" s_is_sequence f (PySem.W.fnOf "is_sequence" "is_sequence" (defArgs s_is_sequence) (defBody s_is_sequence) (defScope s_is_sequence) .none kV dc pm an cd ct) P_is_sequence := ⟨fun_mk (st := s_is_sequence) l c k, PySem.W.mg_of X G a, (fun_mk (st := s_is_sequence) l c k).binds fun _ _ _ _ _ _ us hl => match us, hl with | [_], _ => rfl⟩
theorem mk_are_below {K : PySem.W.Frag} {h : Heap} {mg : Str → Option Value} {f : Addr} {od an : Option Addr} {sl : Array (Option Value)} {oc kV dc pm cd ct : Value} (X : K.In h) (G : h.Ns mainGlobals mg) (a : PySem.W.nsIn K mainGlobals "are_below" = some (some (.ref f))) (l : K.lookup f = some ⟨oc, od, .func (PySem.W.fnOf "are_below" "are_below" (defArgs s_are_below) (defBody s_are_below) (defScope s_are_below) .none kV dc pm an cd ct), sl⟩) (c : PySem.W.codeIn K cd "are_below" = true) (k : PySem.W.keepIn K (.ref f) = true) :
    Df K mg "are_below" s_are_below f (PySem.W.fnOf "are_below" "are_below" (defArgs s_are_below) (defBody s_are_below) (defScope s_are_below) .none kV dc pm an cd ct) P_are_below := ⟨fun_mk (st := s_are_below) l c k, PySem.W.mg_of X G a, (fun_mk (st := s_are_below) l c k).binds fun _ _ _ _ _ _ us hl => match us, hl with | [_, _], _ => rfl⟩
theorem mk_number_in {K : PySem.W.Frag} {h : Heap} {mg : Str → Option Value} {f : Addr} {od an : Option Addr} {sl : Array (Option Value)} {oc kV dc pm cd ct : Value} (X : K.In h) (G : h.Ns mainGlobals mg) (a : PySem.W.nsIn K mainGlobals "number_in" = some (some (.ref f))) (l : K.lookup f = some ⟨oc, od, .func (PySem.W.fnOf "number_in" "number_in" (defArgs s_number_in) (defBody s_number_in) (defScope s_number_in) .none kV dc pm an cd ct), sl⟩) (c : PySem.W.codeIn K cd "number_in" = true) (k : PySem.W.keepIn K (.ref f) = true) :
    Df K mg "number_in" s_number_in f (PySem.W.fnOf "number_in" "number_in" (defArgs s_number_in) (defBody s_number_in) (defScope s_number_in) .none kV dc pm an cd ct) P_number_in := ⟨fun_mk (st := s_number_in) l c k, PySem.W.mg_of X G a, (fun_mk (st := s_number_in) l c k).binds fun _ _ _ _ _ _ us hl => match us, hl with | [_, _], _ => rfl⟩
theorem mk_is_entry {K : PySem.W.Frag} {h : Heap} {mg : Str → Option Value} {f : Addr} {od an : Option Addr} {sl : Array (Option Value)} {oc kV dc pm cd ct : Value} (X : K.In h) (G : h.Ns mainGlobals mg) (a : PySem.W.nsIn K mainGlobals "_is_entry" = some (some (.ref f))) (l : K.lookup f = some ⟨oc, od, .func (PySem.W.fnOf "_is_entry" "_is_entry" (defArgs s_is_entry) (defBody s_is_entry) (defScope s_is_entry) .none kV dc pm an cd ct), sl⟩) (c : PySem.W.codeIn K cd "_is_entry" = true) (k : PySem.W.keepIn K (.ref f) = true) :
    Df K mg "_is_entry" s_is_entry f (PySem.W.fnOf "_is_entry" "_is_entry" (defArgs s_is_entry) (defBody s_is_entry) (defScope s_is_entry) .none kV dc pm an cd ct) P_is_entry := ⟨fun_mk (st := s_is_entry) l c k, PySem.W.mg_of X G a, (fun_mk (st := s_is_entry) l c k).binds fun _ _ _ _ _ _ us hl => match us, hl with | [_, _, _], _ => rfl⟩
theorem mk_machine_text {K : PySem.W.Frag} {h : Heap} {mg : Str → Option Value} {f : Addr} {od an : Option Addr} {sl : Array (Option Value)} {oc kV dc pm cd ct : Value} (X : K.In h) (G : h.Ns mainGlobals mg) (a : PySem.W.nsIn K mainGlobals "machine_text" = some (some (.ref f))) (l : K.lookup f = some ⟨oc, od, .func (PySem.W.fnOf "machine_text" "machine_text" (defArgs s_machine_text) (defBody s_machine_text) (defScope s_machine_text) .none kV dc pm an cd ct), sl⟩) (c : PySem.W.codeIn K cd "machine_text" = true) (k : PySem.W.keepIn K (.ref f) = true) :
    Df K mg "machine_text" s_machine_text f (PySem.W.fnOf "machine_text" "machine_text" (defArgs s_machine_text) (defBody s_machine_text) (defScope s_machine_text) .none kV dc pm an cd ct) P_machine_text := ⟨fun_mk (st := s_machine_text) l c k, PySem.W.mg_of X G a, (fun_mk (st := s_machine_text) l c k).binds fun _ _ _ _ _ _ us hl => match us, hl with | [_], _ => rfl⟩
theorem mk_read_machine {K : PySem.W.Frag} {h : Heap} {mg : Str → Option Value} {f : Addr} {od an : Option Addr} {sl : Array (Option Value)} {oc kV dc pm cd ct : Value} (X : K.In h) (G : h.Ns mainGlobals mg) (a : PySem.W.nsIn K mainGlobals "read_machine" = some (some (.ref f))) (l : K.lookup f = some ⟨oc, od, .func (PySem.W.fnOf "read_machine" "read_machine" (defArgs s_read_machine) (defBody s_read_machine) (defScope s_read_machine) .none kV dc pm an cd ct), sl⟩) (c : PySem.W.codeIn K cd "read_machine" = true) (k : PySem.W.keepIn K (.ref f) = true) :
    Df K mg "read_machine" s_read_machine f (PySem.W.fnOf "read_machine" "read_machine" (defArgs s_read_machine) (defBody s_read_machine) (defScope s_read_machine) .none kV dc pm an cd ct) P_read_machine := ⟨fun_mk (st := s_read_machine) l c k, PySem.W.mg_of X G a, (fun_mk (st := s_read_machine) l c k).binds fun _ _ _ _ _ _ us hl => match us, hl with | [_], _ => rfl⟩
theorem mk_head {K : PySem.W.Frag} {h : Heap} {mg : Str → Option Value} {f : Addr} {od an : Option Addr} {sl : Array (Option Value)} {oc kV dc pm cd ct : Value} (X : K.In h) (G : h.Ns mainGlobals mg) (a : PySem.W.nsIn K mainGlobals "_head" = some (some (.ref f))) (l : K.lookup f = some ⟨oc, od, .func (PySem.W.fnOf "_head" "_head" (defArgs s_head) (defBody s_head) (defScope s_head) .none kV dc pm an cd ct), sl⟩) (c : PySem.W.codeIn K cd "_head" = true) (k : PySem.W.keepIn K (.ref f) = true) :
    Df K mg "_head" s_head f (PySem.W.fnOf "_head" "_head" (defArgs s_head) (defBody s_head) (defScope s_head) .none kV dc pm an cd ct) P_head := ⟨fun_mk (st := s_head) l c k, PySem.W.mg_of X G a, (fun_mk (st := s_head) l c k).binds fun _ _ _ _ _ _ us hl => match us, hl with | [_], _ => rfl⟩
theorem mk_entry {K : PySem.W.Frag} {h : Heap} {mg : Str → Option Value} {f : Addr} {od an : Option Addr} {sl : Array (Option Value)} {oc kV dc pm cd ct : Value} (X : K.In h) (G : h.Ns mainGlobals mg) (a : PySem.W.nsIn K mainGlobals "_entry" = some (some (.ref f))) (l : K.lookup f = some ⟨oc, od, .func (PySem.W.fnOf "_entry" "_entry" (defArgs s_entry) (defBody s_entry) (defScope s_entry) .none kV dc pm an cd ct), sl⟩) (c : PySem.W.codeIn K cd "_entry" = true) (k : PySem.W.keepIn K (.ref f) = true) :
    Df K mg "_entry" s_entry f (PySem.W.fnOf "_entry" "_entry" (defArgs s_entry) (defBody s_entry) (defScope s_entry) .none kV dc pm an cd ct) P_entry := ⟨fun_mk (st := s_entry) l c k, PySem.W.mg_of X G a, (fun_mk (st := s_entry) l c k).binds fun _ _ _ _ _ _ us hl => match us, hl with | [_, _, _, _], _ => rfl⟩
theorem mk_number {K : PySem.W.Frag} {h : Heap} {mg : Str → Option Value} {f : Addr} {od an : Option Addr} {sl : Array (Option Value)} {oc kV dc pm cd ct : Value} (X : K.In h) (G : h.Ns mainGlobals mg) (a : PySem.W.nsIn K mainGlobals "_number" = some (some (.ref f))) (l : K.lookup f = some ⟨oc, od, .func (PySem.W.fnOf "_number" "_number" (defArgs s_number) (defBody s_number) (defScope s_number) .none kV dc pm an cd ct), sl⟩) (c : PySem.W.codeIn K cd "_number" = true) (k : PySem.W.keepIn K (.ref f) = true) :
    Df K mg "_number" s_number f (PySem.W.fnOf "_number" "_number" (defArgs s_number) (defBody s_number) (defScope s_number) .none kV dc pm an cd ct) P_number := ⟨fun_mk (st := s_number) l c k, PySem.W.mg_of X G a, (fun_mk (st := s_number) l c k).binds fun _ _ _ _ _ _ us hl => match us, hl with | [_, _], _ => rfl⟩
theorem mk_law_draw {K : PySem.W.Frag} {h : Heap} {mg : Str → Option Value} {f : Addr} {od an : Option Addr} {sl : Array (Option Value)} {oc kV dc pm cd ct : Value} (X : K.In h) (G : h.Ns mainGlobals mg) (a : PySem.W.nsIn K mainGlobals "_law_draw" = some (some (.ref f))) (l : K.lookup f = some ⟨oc, od, .func (PySem.W.fnOf "_law_draw" "_law_draw" (defArgs s_law_draw) (defBody s_law_draw) (defScope s_law_draw) .none kV dc pm an cd ct), sl⟩) (c : PySem.W.codeIn K cd "_law_draw" = true) (k : PySem.W.keepIn K (.ref f) = true) :
    Df K mg "_law_draw" s_law_draw f (PySem.W.fnOf "_law_draw" "_law_draw" (defArgs s_law_draw) (defBody s_law_draw) (defScope s_law_draw) .none kV dc pm an cd ct) P_law_draw := ⟨fun_mk (st := s_law_draw) l c k, PySem.W.mg_of X G a, (fun_mk (st := s_law_draw) l c k).binds fun _ _ _ _ _ _ us hl => match us, hl with | [_, _], _ => rfl⟩
theorem mk_law_any {K : PySem.W.Frag} {h : Heap} {mg : Str → Option Value} {f : Addr} {od an : Option Addr} {sl : Array (Option Value)} {oc kV dc pm cd ct : Value} (X : K.In h) (G : h.Ns mainGlobals mg) (a : PySem.W.nsIn K mainGlobals "_law_any" = some (some (.ref f))) (l : K.lookup f = some ⟨oc, od, .func (PySem.W.fnOf "_law_any" "_law_any" (defArgs s_law_any) (defBody s_law_any) (defScope s_law_any) .none kV dc pm an cd ct), sl⟩) (c : PySem.W.codeIn K cd "_law_any" = true) (k : PySem.W.keepIn K (.ref f) = true) :
    Df K mg "_law_any" s_law_any f (PySem.W.fnOf "_law_any" "_law_any" (defArgs s_law_any) (defBody s_law_any) (defScope s_law_any) .none kV dc pm an cd ct) P_law_any := ⟨fun_mk (st := s_law_any) l c k, PySem.W.mg_of X G a, (fun_mk (st := s_law_any) l c k).binds fun _ _ _ _ _ _ us hl => match us, hl with | [_, _], _ => rfl⟩
theorem mk_law_of {K : PySem.W.Frag} {h : Heap} {mg : Str → Option Value} {f : Addr} {od an : Option Addr} {sl : Array (Option Value)} {oc kV dc pm cd ct : Value} (X : K.In h) (G : h.Ns mainGlobals mg) (a : PySem.W.nsIn K mainGlobals "_law_of" = some (some (.ref f))) (l : K.lookup f = some ⟨oc, od, .func (PySem.W.fnOf "_law_of" "_law_of" (defArgs s_law_of) (defBody s_law_of) (defScope s_law_of) .none kV dc pm an cd ct), sl⟩) (c : PySem.W.codeIn K cd "_law_of" = true) (k : PySem.W.keepIn K (.ref f) = true) :
    Df K mg "_law_of" s_law_of f (PySem.W.fnOf "_law_of" "_law_of" (defArgs s_law_of) (defBody s_law_of) (defScope s_law_of) .none kV dc pm an cd ct) P_law_of := ⟨fun_mk (st := s_law_of) l c k, PySem.W.mg_of X G a, (fun_mk (st := s_law_of) l c k).binds fun _ _ _ _ _ _ us hl => match us, hl with | [_, _], _ => rfl⟩
theorem mk_law_mixed {K : PySem.W.Frag} {h : Heap} {mg : Str → Option Value} {f : Addr} {od an : Option Addr} {sl : Array (Option Value)} {oc kV dc pm cd ct : Value} (X : K.In h) (G : h.Ns mainGlobals mg) (a : PySem.W.nsIn K mainGlobals "_law_mixed" = some (some (.ref f))) (l : K.lookup f = some ⟨oc, od, .func (PySem.W.fnOf "_law_mixed" "_law_mixed" (defArgs s_law_mixed) (defBody s_law_mixed) (defScope s_law_mixed) .none kV dc pm an cd ct), sl⟩) (c : PySem.W.codeIn K cd "_law_mixed" = true) (k : PySem.W.keepIn K (.ref f) = true) :
    Df K mg "_law_mixed" s_law_mixed f (PySem.W.fnOf "_law_mixed" "_law_mixed" (defArgs s_law_mixed) (defBody s_law_mixed) (defScope s_law_mixed) .none kV dc pm an cd ct) P_law_mixed := ⟨fun_mk (st := s_law_mixed) l c k, PySem.W.mg_of X G a, (fun_mk (st := s_law_mixed) l c k).binds fun _ _ _ _ _ _ us hl => match us, hl with | [_, _], _ => rfl⟩
theorem mk_law_columns {K : PySem.W.Frag} {h : Heap} {mg : Str → Option Value} {f : Addr} {od an : Option Addr} {sl : Array (Option Value)} {oc kV dc pm cd ct : Value} (X : K.In h) (G : h.Ns mainGlobals mg) (a : PySem.W.nsIn K mainGlobals "_law_columns" = some (some (.ref f))) (l : K.lookup f = some ⟨oc, od, .func (PySem.W.fnOf "_law_columns" "_law_columns" (defArgs s_law_columns) (defBody s_law_columns) (defScope s_law_columns) .none kV dc pm an cd ct), sl⟩) (c : PySem.W.codeIn K cd "_law_columns" = true) (k : PySem.W.keepIn K (.ref f) = true) :
    Df K mg "_law_columns" s_law_columns f (PySem.W.fnOf "_law_columns" "_law_columns" (defArgs s_law_columns) (defBody s_law_columns) (defScope s_law_columns) .none kV dc pm an cd ct) P_law_columns := ⟨fun_mk (st := s_law_columns) l c k, PySem.W.mg_of X G a, (fun_mk (st := s_law_columns) l c k).binds fun _ _ _ _ _ _ us hl => match us, hl with | [_], _ => rfl⟩
theorem mk_law_column {K : PySem.W.Frag} {h : Heap} {mg : Str → Option Value} {f : Addr} {od an : Option Addr} {sl : Array (Option Value)} {oc kV dc pm cd ct : Value} (X : K.In h) (G : h.Ns mainGlobals mg) (a : PySem.W.nsIn K mainGlobals "_law_column" = some (some (.ref f))) (l : K.lookup f = some ⟨oc, od, .func (PySem.W.fnOf "_law_column" "_law_column" (defArgs s_law_column) (defBody s_law_column) (defScope s_law_column) .none kV dc pm an cd ct), sl⟩) (c : PySem.W.codeIn K cd "_law_column" = true) (k : PySem.W.keepIn K (.ref f) = true) :
    Df K mg "_law_column" s_law_column f (PySem.W.fnOf "_law_column" "_law_column" (defArgs s_law_column) (defBody s_law_column) (defScope s_law_column) .none kV dc pm an cd ct) P_law_column := ⟨fun_mk (st := s_law_column) l c k, PySem.W.mg_of X G a, (fun_mk (st := s_law_column) l c k).binds fun _ _ _ _ _ _ us hl => match us, hl with | [_, _, _], _ => rfl⟩
theorem mk_law_machine {K : PySem.W.Frag} {h : Heap} {mg : Str → Option Value} {f : Addr} {od an : Option Addr} {sl : Array (Option Value)} {oc kV dc pm cd ct : Value} (X : K.In h) (G : h.Ns mainGlobals mg) (a : PySem.W.nsIn K mainGlobals "_law_machine" = some (some (.ref f))) (l : K.lookup f = some ⟨oc, od, .func (PySem.W.fnOf "_law_machine" "_law_machine" (defArgs s_law_machine) (defBody s_law_machine) (defScope s_law_machine) .none kV dc pm an cd ct), sl⟩) (c : PySem.W.codeIn K cd "_law_machine" = true) (k : PySem.W.keepIn K (.ref f) = true) :
    Df K mg "_law_machine" s_law_machine f (PySem.W.fnOf "_law_machine" "_law_machine" (defArgs s_law_machine) (defBody s_law_machine) (defScope s_law_machine) .none kV dc pm an cd ct) P_law_machine := ⟨fun_mk (st := s_law_machine) l c k, PySem.W.mg_of X G a, (fun_mk (st := s_law_machine) l c k).binds fun _ _ _ _ _ _ us hl => match us, hl with | [_, _], _ => rfl⟩
theorem mk_law_wide {K : PySem.W.Frag} {h : Heap} {mg : Str → Option Value} {f : Addr} {od an : Option Addr} {sl : Array (Option Value)} {oc kV dc pm cd ct : Value} (X : K.In h) (G : h.Ns mainGlobals mg) (a : PySem.W.nsIn K mainGlobals "_law_wide" = some (some (.ref f))) (l : K.lookup f = some ⟨oc, od, .func (PySem.W.fnOf "_law_wide" "_law_wide" (defArgs s_law_wide) (defBody s_law_wide) (defScope s_law_wide) .none kV dc pm an cd ct), sl⟩) (c : PySem.W.codeIn K cd "_law_wide" = true) (k : PySem.W.keepIn K (.ref f) = true) :
    Df K mg "_law_wide" s_law_wide f (PySem.W.fnOf "_law_wide" "_law_wide" (defArgs s_law_wide) (defBody s_law_wide) (defScope s_law_wide) .none kV dc pm an cd ct) P_law_wide := ⟨fun_mk (st := s_law_wide) l c k, PySem.W.mg_of X G a, (fun_mk (st := s_law_wide) l c k).binds fun _ _ _ _ _ _ us hl => match us, hl with | [_, _], _ => rfl⟩
theorem mk_law_read {K : PySem.W.Frag} {h : Heap} {mg : Str → Option Value} {f : Addr} {od an : Option Addr} {sl : Array (Option Value)} {oc kV dc pm cd ct : Value} (X : K.In h) (G : h.Ns mainGlobals mg) (a : PySem.W.nsIn K mainGlobals "_law_read" = some (some (.ref f))) (l : K.lookup f = some ⟨oc, od, .func (PySem.W.fnOf "_law_read" "_law_read" (defArgs s_law_read) (defBody s_law_read) (defScope s_law_read) .none kV dc pm an cd ct), sl⟩) (c : PySem.W.codeIn K cd "_law_read" = true) (k : PySem.W.keepIn K (.ref f) = true) :
    Df K mg "_law_read" s_law_read f (PySem.W.fnOf "_law_read" "_law_read" (defArgs s_law_read) (defBody s_law_read) (defScope s_law_read) .none kV dc pm an cd ct) P_law_read := ⟨fun_mk (st := s_law_read) l c k, PySem.W.mg_of X G a, (fun_mk (st := s_law_read) l c k).binds fun _ _ _ _ _ _ us hl => match us, hl with | [_], _ => rfl⟩
theorem mk_law_line {K : PySem.W.Frag} {h : Heap} {mg : Str → Option Value} {f : Addr} {od an : Option Addr} {sl : Array (Option Value)} {oc kV dc pm cd ct : Value} (X : K.In h) (G : h.Ns mainGlobals mg) (a : PySem.W.nsIn K mainGlobals "_law_line" = some (some (.ref f))) (l : K.lookup f = some ⟨oc, od, .func (PySem.W.fnOf "_law_line" "_law_line" (defArgs s_law_line) (defBody s_law_line) (defScope s_law_line) .none kV dc pm an cd ct), sl⟩) (c : PySem.W.codeIn K cd "_law_line" = true) (k : PySem.W.keepIn K (.ref f) = true) :
    Df K mg "_law_line" s_law_line f (PySem.W.fnOf "_law_line" "_law_line" (defArgs s_law_line) (defBody s_law_line) (defScope s_law_line) .none kV dc pm an cd ct) P_law_line := ⟨fun_mk (st := s_law_line) l c k, PySem.W.mg_of X G a, (fun_mk (st := s_law_line) l c k).binds fun _ _ _ _ _ _ us hl => match us, hl with | [_, _, _, _], _ => rfl⟩
/-- an error of a class is taken by a clause that names the class, or not -/
theorem exm_of {K : PySem.W.Frag} {S R : Addr} {b : Bool} (h1 : PySem.W.subIn K (.ref R) (.type "BaseException") = some true) (h2 : PySem.W.isClsIn K R = true) (h3 : PySem.W.typeIn K (.ref R) = some (.type "type")) (h4 : PySem.W.subIn K (.ref S) (.ref R) = some b) : PySem.W.exmOne K (.ref S) (.ref R) = some b := by
  have e1 : (PySem.W.subIn K (.ref R) (.type "BaseException") == some true) = true := by rw [h1] <;> rfl
  have e2 : ((PySem.W.clsIn K R).isSome && PySem.W.typeIn K (.ref R) == some (.type "type")) = true := by
    have q : (PySem.W.clsIn K R).isSome = true := h2
    rw [q, h3] <;> rfl
  show (if (PySem.W.subIn K (.ref R) (.type "BaseException") == some true) = true then (if ((PySem.W.clsIn K R).isSome && PySem.W.typeIn K (.ref R) == some (.type "type")) = true then PySem.W.subIn K (.ref S) (.ref R) else none) else none) = some b
  rw [if_pos e1, if_pos e2]
  exact h4
/-- what is told of an error's class and of its __init__ -/
structure ErrF (K : PySem.W.Frag) (C fI : Addr) : Prop where
  sa : PySem.W.findIn K (.ref C) "__setattr__" = some (some (.builtin "object.__setattr__"))
  ga : PySem.W.findIn K (.ref C) "__getattribute__" = some (some (.builtin "BaseException.__getattribute__"))
  gg : PySem.W.findIn K (.ref C) "__getattr__" = some none
  nb : PySem.W.findIn K (.ref C) "at" = some none
  a : PySem.W.findIn K (.ref C) "__init__" = some (some (.ref fI))
  t : PySem.W.typeIn K (.ref fI) = some (.type "function")
  k : PySem.W.keepIn K (.ref C) = true
  e : PySem.W.subIn K (.ref C) (.type "BaseException") = some true
  tC : PySem.W.typeIn K (.ref C) = some (.type "type")
  h : PySem.W.hasDictIn K C = true
  i : PySem.W.isClsIn K C = true
  s : PySem.W.subIn K (.ref C) (.ref C) = some true
theorem err_mk {K : PySem.W.Frag} {h : Heap} {mg : Str → Option Value} {cn qn : Str} {C fI : Addr} {st : Stmt} {od an : Option Addr} {sl : Array (Option Value)} {oc dc pm cd ct : Value} {p1 p2 q1 q2 q3 q4 : Pos} {nm q : Str} {S N : Addr} {bs : List Value} {sn : List Str} {sub : List Value} {ab : Bool} {col : Option Bool} {dd : Option Addr} {m0 m1 m2 m3 m5 : Option Value} (X : K.In h) (G : h.Ns mainGlobals mg) (aC : PySem.W.nsIn K mainGlobals cn = some (some (.ref C))) (xL : K.lookup C = some (excClassObj nm q C N bs [.ref S, .type "ValueError", .type "Exception", .type "BaseException", .type "object"] true sn sub ab col dd m0 m1 m2 m3 m5 "ValueError.__new__")) (F : ErrF K C fI)
    (l : K.lookup fI = some ⟨oc, od, .func (PySem.W.fnOf "__init__" qn (defArgs st) (defBody st) (defScope st) .none .none dc pm an cd ct), sl⟩) (c : PySem.W.codeIn K cd qn = true) (e1 : defArgs st = PySem.ErrX.iA p1 p2) (e2 : defBody st = PySem.ErrX.iB q1 q2 q3 q4) (e3 : defScope st = PySem.ErrX.iS) : PySem.ErrX.ErrTxt K mg cn qn C fI := by
  rw [e1, e2, e3] at l
  exact { gC := PySem.W.mg_of X G aC, cls := ⟨nm, q, N, bs, _, sn, sub, ab, col, dd, m0, m1, m2, m3, m5, xL, by show PySem.HandSPX.refsVE [.type "ValueError", .type "Exception", .type "BaseException", .type "object"] = true; decide +kernel⟩, sa := F.sa, ga := F.ga, gg := F.gg, noN := F.nb, iC := F.a, tC := F.t, kC := F.k, exC := F.e, tyC := F.tC, hdC := F.h, te := exm_of F.e F.i F.tC F.s, fn := ⟨oc, od, dc, pm, an, cd, ct, sl, _, _, _, _, _, _, l, c⟩ }
end Lk

set_option Elab.async false
set_option linter.all false
set_option maxRecDepth 100000
set_option maxHeartbeats 8000000
namespace Lk
open PySem L2
theorem toG {P : Program} {w : World} {K : PySem.W.Frag} {mg : Str → Option Value} {base : Heap} {k : Nat} {f : Addr} {fd : FuncData} {ps : List Str} {sp : Sp} (F : FnOk P w K mg base CX0 k f fd ps sp) : FnG P w K mg base k f fd ps sp := ⟨F.len, fun A outer s H args us vs Q E _ hr e0 hb r h => F.run A outer s H args us vs Q E hr e0 hb r h⟩
/-- what is told of the class Machine -/
structure MacF (K : PySem.W.Frag) (CM fI fE : Addr) : Prop where
  pg : PySem.W.plainGet K CM Str.empty = true
  hd : PySem.W.hasDictIn K CM = true
  po : PySem.W.plainOver K CM = true
  sa : PySem.W.findIn K (.ref CM) "__setattr__" = some (some (.builtin "object.__setattr__"))
  n1 : PySem.W.findIn K (.ref CM) "commands" = some none
  n2 : PySem.W.findIn K (.ref CM) "states" = some none
  n3 : PySem.W.findIn K (.ref CM) "steps" = some none
  mkI : PySem.W.makesIn K CM = true
  ini : PySem.W.findIn K (.ref CM) "__init__" = some (some (.ref fI))
  fnI : PySem.W.isFn K (.ref fI) = true
  kp : PySem.W.keepIn K (.ref CM) = true
  ha : PySem.W.findIn K (.ref CM) "__class__" = some (some (.builtin "object.__class__"))
  hn : PySem.W.specialIn K (.builtin "object.__class__") "__get__" = some (some (.builtin "getset_descriptor.__get__"))
  htk : PySem.W.takesIn K (.builtin "object.__class__") = some true
  hm : PySem.W.mroIn K CM (.type "object") = some true
  kS : PySem.W.kitOne K (.type "str") (.ref CM) = some false
  kT : PySem.W.kitOne K (.type "tuple") (.ref CM) = some false
  kC : PySem.W.kitOne K (.ref CM) (.ref CM) = some true
  sS : PySem.W.subIn K (.type "str") (.ref CM) = some false
  sT : PySem.W.subIn K (.type "tuple") (.ref CM) = some false
  eq : PySem.W.findIn K (.ref CM) "__eq__" = some (some (.ref fE))
  isf : PySem.W.isFn K (.ref fE) = true
  ne : PySem.W.findIn K (.ref CM) "__ne__" = some (some (.builtin "object.__ne__"))
theorem all_mk {l : PySem.W.OpenLaw} {w : World} {K : PySem.W.Frag} {h : Heap} {mg : Str → Option Value} {fa f42 CM fI fE CE fCE CT fCT : Addr} {uF uM : Value} {f_is_integer f_is_number f_is_below f_is_sequence f_are_below f_number_in f_is_entry f_machine_text f_read_machine f_head f_entry f_number f_law_draw f_law_any f_law_of f_law_mixed f_law_columns f_law_column f_law_machine f_law_wide f_law_read f_law_line : Addr} {g_is_integer g_is_number g_is_below g_is_sequence g_are_below g_number_in g_is_entry g_machine_text g_read_machine g_head g_entry g_number g_law_draw g_law_any g_law_of g_law_mixed g_law_columns g_law_column g_law_machine g_law_wide g_law_read g_law_line : FuncData}
    {od1 an1 od2 an2 od3 an3 : Option Addr} {sl1 sl2 sl3 : Array (Option Value)} {oc1 kV1 dc1 pm1 cd1 ct1 oc2 kV2 dc2 pm2 cd2 ct2 oc3 kV3 dc3 pm3 cd3 ct3 : Value} (X : K.In h) (G : h.Ns mainGlobals mg) (hfa : mg "law" = some (.ref fa))
    (d_is_integer : Df K mg "is_integer" s_is_integer f_is_integer g_is_integer P_is_integer)
    (d_is_number : Df K mg "is_number" s_is_number f_is_number g_is_number P_is_number)
    (d_is_below : Df K mg "is_below" s_is_below f_is_below g_is_below P_is_below)
    (d_is_sequence : Df K mg "is_sequence" s_is_sequence f_is_sequence g_is_sequence P_is_sequence)
    (d_are_below : Df K mg "are_below" s_are_below f_are_below g_are_below P_are_below)
    (d_number_in : Df K mg "number_in" s_number_in f_number_in g_number_in P_number_in)
    (d_is_entry : Df K mg "_is_entry" s_is_entry f_is_entry g_is_entry P_is_entry)
    (d_machine_text : Df K mg "machine_text" s_machine_text f_machine_text g_machine_text P_machine_text)
    (d_read_machine : Df K mg "read_machine" s_read_machine f_read_machine g_read_machine P_read_machine)
    (d_head : Df K mg "_head" s_head f_head g_head P_head)
    (d_entry : Df K mg "_entry" s_entry f_entry g_entry P_entry)
    (d_number : Df K mg "_number" s_number f_number g_number P_number)
    (d_law_draw : Df K mg "_law_draw" s_law_draw f_law_draw g_law_draw P_law_draw)
    (d_law_any : Df K mg "_law_any" s_law_any f_law_any g_law_any P_law_any)
    (d_law_of : Df K mg "_law_of" s_law_of f_law_of g_law_of P_law_of)
    (d_law_mixed : Df K mg "_law_mixed" s_law_mixed f_law_mixed g_law_mixed P_law_mixed)
    (d_law_columns : Df K mg "_law_columns" s_law_columns f_law_columns g_law_columns P_law_columns)
    (d_law_column : Df K mg "_law_column" s_law_column f_law_column g_law_column P_law_column)
    (d_law_machine : Df K mg "_law_machine" s_law_machine f_law_machine g_law_machine P_law_machine)
    (d_law_wide : Df K mg "_law_wide" s_law_wide f_law_wide g_law_wide P_law_wide)
    (d_law_read : Df K mg "_law_read" s_law_read f_law_read g_law_read P_law_read)
    (d_law_line : Df K mg "_law_line" s_law_line f_law_line g_law_line P_law_line)
    (a1 : PySem.W.nsIn K mainGlobals "law" = some (some (.ref f42))) (l1 : K.lookup f42 = some ⟨oc1, od1, .func (PySem.W.fnOf "law" "law" (defArgs s_law) (defBody s_law) (defScope s_law) .none kV1 dc1 pm1 an1 cd1 ct1), sl1⟩) (c1 : PySem.W.codeIn K cd1 "law" = true) (k1 : PySem.W.keepIn K (.ref f42) = true)
    (aM : PySem.W.nsIn K mainGlobals "Machine" = some (some (.ref CM))) (MF : MacF K CM fI fE)
    (l2 : K.lookup fI = some ⟨oc2, od2, .func (PySem.W.fnOf "__init__" "Machine.__init__" (defArgs s_Machine___init) (defBody s_Machine___init) (defScope s_Machine___init) .none kV2 dc2 pm2 an2 cd2 ct2), sl2⟩) (c2 : PySem.W.codeIn K cd2 "Machine.__init__" = true) (k2 : PySem.W.keepIn K (.ref fI) = true)
    (l3 : K.lookup fE = some ⟨oc3, od3, .func (PySem.W.fnOf "__eq__" "Machine.__eq__" (defArgs s_Machine___eq) (defBody s_Machine___eq) (defScope s_Machine___eq) .none kV3 dc3 pm3 an3 cd3 ct3), sl3⟩) (c3 : PySem.W.codeIn K cd3 "Machine.__eq__" = true) (k3 : PySem.W.keepIn K (.ref fE) = true)
    (EM : PySem.ErrX.ErrTxt K mg "InvalidMachine" "InvalidMachine.__init__" CE fCE) (ET : PySem.ErrX.ErrTxt K mg "InvalidText" "InvalidText.__init__" CT fCT)
    (aF : PySem.W.nsIn K mainGlobals "FIGURES" = some (some uF)) (rF : RelV (.str figs) uF) (aN : PySem.W.nsIn K mainGlobals "MOST_FIGURES" = some (some uM)) (rM : RelV (.int 2) uM) (mS : mg "str" = none) (T : Txt mg) :
    ∃ fd : FuncData, (∀ (s : Shared) (v : Value), BindsTo s fd ⟨[v], []⟩ [("script", v)]) ∧ ∀ base : Heap, K.In base → base.Ns mainGlobals mg → FnG l.prog w K mg base 11 fa fd ["script"] (spLaw K) := by
  have e := hfa.symm.trans (PySem.W.mg_of X G a1)
  cases e
  have TC : TxC K CM := ⟨⟨MF.pg, MF.hd, MF.po, MF.sa⟩, MF.n1, MF.n2, MF.n3⟩
  have gM := PySem.W.mg_of X G aM
  have gF := PySem.W.mg_of X G aF
  have gN := PySem.W.mg_of X G aN
  have TE : TxE K mg CM fE := ⟨gM, MF.ha, MF.hn, MF.htk, MF.hm, MF.kS, MF.kT, MF.kC, MF.sS, MF.sT, MF.eq, MF.isf, MF.ne⟩
  have FI := fun_mk (st := s_Machine___init) l2 c2 k2
  have bI := FI.binds (ps := P_Machine___init) fun _ _ _ _ _ _ us hl => match us, hl with | [_, _, _], _ => rfl
  have FE := fun_mk (st := s_Machine___eq) l3 c3 k3
  have bE := FE.binds (ps := P_Machine___eq) fun _ _ _ _ _ _ us hl => match us, hl with | [_, _], _ => rfl
  have MC := McT.mk (⟨MF.mkI, MF.ini, MF.fnI, MF.kp⟩ : Mk K CM fI) gM bI (kbn_rev FI fun _ _ _ _ _ _ us ws h1 h2 => match us, ws, h1, h2 with | [_], [_, _], _, _ => by first | rfl | with_unfolding_all rfl | kernel_rfl)
  have k_machine_text : KBn K g_machine_text P_machine_text 0 ["machine"] uRev kRev := kbn_rev d_machine_text.F fun _ _ _ _ _ _ us ws h1 h2 => match us, ws, h1, h2 with | [], [_], _, _ => by first | rfl | with_unfolding_all rfl | kernel_rfl
  have k_read_machine : KBn K g_read_machine P_read_machine 0 ["text"] uRev kRev := kbn_rev d_read_machine.F fun _ _ _ _ _ _ us ws h1 h2 => match us, ws, h1, h2 with | [], [_], _, _ => by first | rfl | with_unfolding_all rfl | kernel_rfl
  refine ⟨PySem.W.fnOf "law" "law" (defArgs s_law) (defBody s_law) (defScope s_law) .none kV1 dc1 pm1 an1 cd1 ct1, fun s v => .of_eq rfl, fun base _ _ => ?_⟩
  have A0 : Df K mg "law" s_law fa (PySem.W.fnOf "law" "law" (defArgs s_law) (defBody s_law) (defScope s_law) .none kV1 dc1 pm1 an1 cd1 ct1) P_law := ⟨fun_mk (st := s_law) l1 c1 k1, PySem.W.mg_of X G a1, (fun_mk (st := s_law) l1 c1 k1).binds fun _ _ _ _ _ _ us hl => match us, hl with | [_], _ => rfl⟩
  have GI : FnOk l.prog w K mg base (L2.CX l.prog w) 7 fI _ P_Machine___init (spInit CM CE) := ok_init FI d_is_entry d_is_sequence d_are_below d_is_below d_is_number d_is_integer T TC EM
  have GE : FnOk l.prog w K mg base CX0 1 fE _ P_Machine___eq (spEqM CM) := ok_eq FE T TC TE
  have G_number : FnOk l.prog w K mg base (L2.CX l.prog w) 6 f_number g_number P_number (spNumber CT) := ok_number4 d_number d_number_in (ok_number_in d_number_in T gF rF) T gN rM ET
  have G_head : FnOk l.prog w K mg base (L2.CX l.prog w) 7 f_head g_head P_head (spHead CT) := ok_head5 d_head T G_number d_number ET
  have G_entry : FnOk l.prog w K mg base (L2.CX l.prog w) 7 f_entry g_entry P_entry (spEntryT CT) := ok_entry3 d_entry T G_number d_number ET
  have G_read : FnOk l.prog w K mg base (L2.CX l.prog w) 9 f_read_machine g_read_machine P_read_machine (spRead CM CT) := ok_read3 d_read_machine T mS G_head d_head G_entry d_entry MC GI ET
  have G_text : FnOk l.prog w K mg base CX0 1 f_machine_text g_machine_text P_machine_text (spText CM) := ok_text1 d_machine_text T mS TC
  have G_law_read : FnOk l.prog w K mg base CX0 10 f_law_read g_law_read P_law_read (spLawRead CM) := ok_law_read d_law_read d_read_machine k_read_machine G_read T ET
  have G_of : FnOk l.prog w K mg base CX0 2 f_law_of g_law_of P_law_of spOf := ok_of d_law_of d_law_any T
  have G_line : FnOk l.prog w K mg base CX0 3 f_law_line g_law_line P_law_line spLine := ok_line d_law_line d_law_of G_of T mS
  have GM : FnOk l.prog w K mg base CX0 4 f_law_machine g_law_machine P_law_machine spMachine := ok_machine d_law_machine d_law_any d_law_of d_law_mixed d_law_columns d_law_column T
  have G_wide : FnOk l.prog w K mg base CX0 5 f_law_wide g_law_wide P_law_wide spWide := ok_wide d_law_wide d_law_any d_law_machine GM T
  exact toG (ok_law A0 d_law_draw d_law_wide d_law_any d_law_of d_law_read d_law_line d_machine_text k_machine_text G_wide G_law_read G_line G_text MC GI GE bE TE mS T)
theorem walk {l : PySem.W.OpenLaw} {q : Program} {loose : List Str} {XP : (Str → Option Value) → Heap → Prop} {YP : World → Heap → Prop} {d : DefRec} {K : Params → PySem.W.Frag} (hn : l.most = some 63) (hdf : d.params.defaults = []) (hY : ∀ (w : World) (h : Heap), YP w h → (K w.params).In h)
    (F : ∀ (w : World) (mg : Str → Option Value) (fa : Addr) (h : Heap), (K w.params).In h → h.Ns mainGlobals mg → mg d.name = some (.ref fa) → ∃ fd : FuncData, (∀ (s : Shared) (u : Value), BindsTo s fd ⟨[u], []⟩ [("script", u)]) ∧ ∀ base : Heap, (K w.params).In base → base.Ns mainGlobals mg → FnG l.prog w (K w.params) mg base 11 fa fd ["script"] (spLaw (K w.params))) :
    PySem.W.WalkO q loose XP YP l.row.toRowW d [] (fun f vs => PySem.call f vs) :=
  walk_G (n := 63) (k := 11) (x := "script") (sp := fun w => spLaw (K w.params)) hn (by decide) hdf ⟨rfl, by decide, by decide⟩ hY F fun _ _ a ns hl hS => ⟨a, ns, rfl, hS, hl, fun _ => rfl⟩
end Lk

set_option Elab.async false
open PySem PySem.W PyProof.Rows in
set_option maxRecDepth 100000 in
set_option maxHeartbeats 0 in
theorem PySem.Challenge.cw_lateslips_k04_texts_of_machines_holds : PySem.Challenge.rw_lateslips_k04_texts_of_machines.Holds := by
  w_on; o_law; k_head; (case hw => w_witness2)
  k_fill
  refine Lk.walk (l := PySem.Challenge.rw_lateslips_k04_texts_of_machines) rfl rfl (fun w h Y => PySem.W.kIn_of Y) ?F
  case F =>
    intro w mg fa h KX G hmg
    refine' Lk.all_mk KX G hmg (Lk.mk_is_integer KX G ?a_is_integer ?l_is_integer ?c_is_integer ?k_is_integer) (Lk.mk_is_number KX G ?a_is_number ?l_is_number ?c_is_number ?k_is_number) (Lk.mk_is_below KX G ?a_is_below ?l_is_below ?c_is_below ?k_is_below) (Lk.mk_is_sequence KX G ?a_is_sequence ?l_is_sequence ?c_is_sequence ?k_is_sequence) (Lk.mk_are_below KX G ?a_are_below ?l_are_below ?c_are_below ?k_are_below) (Lk.mk_number_in KX G ?a_number_in ?l_number_in ?c_number_in ?k_number_in) (Lk.mk_is_entry KX G ?a_is_entry ?l_is_entry ?c_is_entry ?k_is_entry) (Lk.mk_machine_text KX G ?a_machine_text ?l_machine_text ?c_machine_text ?k_machine_text) (Lk.mk_read_machine KX G ?a_read_machine ?l_read_machine ?c_read_machine ?k_read_machine) (Lk.mk_head KX G ?a_head ?l_head ?c_head ?k_head) (Lk.mk_entry KX G ?a_entry ?l_entry ?c_entry ?k_entry) (Lk.mk_number KX G ?a_number ?l_number ?c_number ?k_number) (Lk.mk_law_draw KX G ?a_law_draw ?l_law_draw ?c_law_draw ?k_law_draw) (Lk.mk_law_any KX G ?a_law_any ?l_law_any ?c_law_any ?k_law_any) (Lk.mk_law_of KX G ?a_law_of ?l_law_of ?c_law_of ?k_law_of) (Lk.mk_law_mixed KX G ?a_law_mixed ?l_law_mixed ?c_law_mixed ?k_law_mixed) (Lk.mk_law_columns KX G ?a_law_columns ?l_law_columns ?c_law_columns ?k_law_columns) (Lk.mk_law_column KX G ?a_law_column ?l_law_column ?c_law_column ?k_law_column) (Lk.mk_law_machine KX G ?a_law_machine ?l_law_machine ?c_law_machine ?k_law_machine) (Lk.mk_law_wide KX G ?a_law_wide ?l_law_wide ?c_law_wide ?k_law_wide) (Lk.mk_law_read KX G ?a_law_read ?l_law_read ?c_law_read ?k_law_read) (Lk.mk_law_line KX G ?a_law_line ?l_law_line ?c_law_line ?k_law_line) ?a1 ?l1 ?c1 ?k1 ?aM ⟨?m_pg, ?m_hd, ?m_po, ?m_sa, ?m_n1, ?m_n2, ?m_n3, ?m_mkI, ?m_ini, ?m_fnI, ?m_kp, ?m_ha, ?m_hn, ?m_htk, ?m_hm, ?m_kS, ?m_kT, ?m_kC, ?m_sS, ?m_sT, ?m_eq, ?m_isf, ?m_ne⟩ ?l2 ?c2 ?k2 ?l3 ?c3 ?k3 (Lk.err_mk (st := L2.inClass (Lk.top 2) 0) KX G ?e1_aC ?e1_xL ⟨?e1_sa, ?e1_ga, ?e1_gg, ?e1_nb, ?e1_a, ?e1_t, ?e1_k, ?e1_e, ?e1_tC, ?e1_h, ?e1_i, ?e1_s⟩ ?e1_l ?e1_c rfl rfl rfl) (Lk.err_mk (st := L2.inClass (Lk.top 3) 0) KX G ?e2_aC ?e2_xL ⟨?e2_sa, ?e2_ga, ?e2_gg, ?e2_nb, ?e2_a, ?e2_t, ?e2_k, ?e2_e, ?e2_tC, ?e2_h, ?e2_i, ?e2_s⟩ ?e2_l ?e2_c rfl rfl rfl) ?aF ?rF ?aN ?rM (PySem.W.mg_none_of KX G ?z_str) ⟨PySem.W.mg_none_of KX G ?z_len, PySem.W.mg_none_of KX G ?z_abs, PySem.W.mg_none_of KX G ?z_int, PySem.W.mg_none_of KX G ?z_max, PySem.W.mg_none_of KX G ?z_min, PySem.W.mg_none_of KX G ?z_range, PySem.W.mg_none_of KX G ?z_list, PySem.W.mg_none_of KX G ?z_tuple, PySem.W.mg_none_of KX G ?z_enumerate, PySem.W.mg_none_of KX G ?z_zip, PySem.W.mg_none_of KX G ?z_isinstance, PySem.W.mg_none_of KX G ?z_all, PySem.W.mg_none_of KX G ?z_bool, PySem.W.mg_none_of KX G ?z_repr⟩
    (case a_is_integer => k_is)
    (case l_is_integer => k_is)
    (case c_is_integer => k_is)
    (case k_is_integer => k_is)
    (case a_is_number => k_is)
    (case l_is_number => k_is)
    (case c_is_number => k_is)
    (case k_is_number => k_is)
    (case a_is_below => k_is)
    (case l_is_below => k_is)
    (case c_is_below => k_is)
    (case k_is_below => k_is)
    (case a_is_sequence => k_is)
    (case l_is_sequence => k_is)
    (case c_is_sequence => k_is)
    (case k_is_sequence => k_is)
    (case a_are_below => k_is)
    (case l_are_below => k_is)
    (case c_are_below => k_is)
    (case k_are_below => k_is)
    (case a_number_in => k_is)
    (case l_number_in => k_is)
    (case c_number_in => k_is)
    (case k_number_in => k_is)
    (case a_is_entry => k_is)
    (case l_is_entry => k_is)
    (case c_is_entry => k_is)
    (case k_is_entry => k_is)
    (case a_machine_text => k_is)
    (case l_machine_text => k_is)
    (case c_machine_text => k_is)
    (case k_machine_text => k_is)
    (case a_read_machine => k_is)
    (case l_read_machine => k_is)
    (case c_read_machine => k_is)
    (case k_read_machine => k_is)
    (case a_head => k_is)
    (case l_head => k_is)
    (case c_head => k_is)
    (case k_head => k_is)
    (case a_entry => k_is)
    (case l_entry => k_is)
    (case c_entry => k_is)
    (case k_entry => k_is)
    (case a_number => k_is)
    (case l_number => k_is)
    (case c_number => k_is)
    (case k_number => k_is)
    (case a_law_draw => k_is)
    (case l_law_draw => k_is)
    (case c_law_draw => k_is)
    (case k_law_draw => k_is)
    (case a_law_any => k_is)
    (case l_law_any => k_is)
    (case c_law_any => k_is)
    (case k_law_any => k_is)
    (case a_law_of => k_is)
    (case l_law_of => k_is)
    (case c_law_of => k_is)
    (case k_law_of => k_is)
    (case a_law_mixed => k_is)
    (case l_law_mixed => k_is)
    (case c_law_mixed => k_is)
    (case k_law_mixed => k_is)
    (case a_law_columns => k_is)
    (case l_law_columns => k_is)
    (case c_law_columns => k_is)
    (case k_law_columns => k_is)
    (case a_law_column => k_is)
    (case l_law_column => k_is)
    (case c_law_column => k_is)
    (case k_law_column => k_is)
    (case a_law_machine => k_is)
    (case l_law_machine => k_is)
    (case c_law_machine => k_is)
    (case k_law_machine => k_is)
    (case a_law_wide => k_is)
    (case l_law_wide => k_is)
    (case c_law_wide => k_is)
    (case k_law_wide => k_is)
    (case a_law_read => k_is)
    (case l_law_read => k_is)
    (case c_law_read => k_is)
    (case k_law_read => k_is)
    (case a_law_line => k_is)
    (case l_law_line => k_is)
    (case c_law_line => k_is)
    (case k_law_line => k_is)
    (case a1 => k_is)
    (case l1 => k_is)
    (case c1 => k_is)
    (case k1 => k_is)
    (case aM => k_is)
    (case m_pg => first | k_is | rfl | decide +kernel)
    (case m_hd => first | k_is | rfl | decide +kernel)
    (case m_po => first | k_is | rfl | decide +kernel)
    (case m_sa => first | k_is | rfl | decide +kernel)
    (case m_n1 => first | k_is | rfl | decide +kernel)
    (case m_n2 => first | k_is | rfl | decide +kernel)
    (case m_n3 => first | k_is | rfl | decide +kernel)
    (case m_mkI => first | k_is | rfl | decide +kernel)
    (case m_ini => first | k_is | rfl | decide +kernel)
    (case m_fnI => first | k_is | rfl | decide +kernel)
    (case m_kp => first | k_is | rfl | decide +kernel)
    (case m_ha => first | k_is | rfl | decide +kernel)
    (case m_hn => first | k_is | rfl | decide +kernel)
    (case m_htk => first | k_is | rfl | decide +kernel)
    (case m_hm => first | k_is | rfl | decide +kernel)
    (case m_kS => first | k_is | rfl | decide +kernel)
    (case m_kT => first | k_is | rfl | decide +kernel)
    (case m_kC => first | k_is | rfl | decide +kernel)
    (case m_sS => first | k_is | rfl | decide +kernel)
    (case m_sT => first | k_is | rfl | decide +kernel)
    (case m_eq => first | k_is | rfl | decide +kernel)
    (case m_isf => first | k_is | rfl | decide +kernel)
    (case m_ne => first | k_is | rfl | decide +kernel)
    (case l2 => k_is)
    (case c2 => k_is)
    (case k2 => k_is)
    (case l3 => k_is)
    (case c3 => k_is)
    (case k3 => k_is)
    (case e1_aC => k_is)
    (case e1_xL => k_is)
    (case e1_sa => first | k_is | rfl)
    (case e1_ga => first | k_is | rfl)
    (case e1_gg => first | k_is | rfl)
    (case e1_nb => first | k_is | rfl)
    (case e1_a => first | k_is | rfl)
    (case e1_t => first | k_is | rfl)
    (case e1_k => first | k_is | rfl)
    (case e1_e => first | k_is | rfl)
    (case e1_tC => first | k_is | rfl)
    (case e1_h => first | k_is | rfl)
    (case e1_i => first | k_is | rfl)
    (case e1_s => first | k_is | rfl)
    (case e1_l => k_is)
    (case e1_c => k_is)
    (case e2_aC => k_is)
    (case e2_xL => k_is)
    (case e2_sa => first | k_is | rfl)
    (case e2_ga => first | k_is | rfl)
    (case e2_gg => first | k_is | rfl)
    (case e2_nb => first | k_is | rfl)
    (case e2_a => first | k_is | rfl)
    (case e2_t => first | k_is | rfl)
    (case e2_k => first | k_is | rfl)
    (case e2_e => first | k_is | rfl)
    (case e2_tC => first | k_is | rfl)
    (case e2_h => first | k_is | rfl)
    (case e2_i => first | k_is | rfl)
    (case e2_s => first | k_is | rfl)
    (case e2_l => k_is)
    (case e2_c => k_is)
    (case aF => k_is)
    (case rF => exact ⟨_, rfl⟩)
    (case aN => k_is)
    (case rM => exact ⟨_, rfl⟩)
    (case z_str => k_is)
    (case z_len => k_is)
    (case z_abs => k_is)
    (case z_int => k_is)
    (case z_max => k_is)
    (case z_min => k_is)
    (case z_range => k_is)
    (case z_list => k_is)
    (case z_tuple => k_is)
    (case z_enumerate => k_is)
    (case z_zip => k_is)
    (case z_isinstance => k_is)
    (case z_all => k_is)
    (case z_bool => k_is)
    (case z_repr => k_is)
